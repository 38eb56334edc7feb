package table

import (
	"hazel/api"
	"hazel/rev"
	"hazel/work"
)

// atBucket is a core at a step of OBucket of the bucket R0.
type atBucket struct{ work.Work }

// step does the one that Pc tells: R1 is the bucket's node, if it has one, R2 its parent's, R3 the one that was laid in for it.
func (b atBucket) step() api.Sys {
	if b.R[0] < 0 || b.R[0] >= buckets {
		return b.At(b.Pc)
	}
	switch b.Pc {
	case 0:
		return b.seeNode()
	case 1:
		return b.Call(api.OBucket, rev.Parent(b.R[0]))
	case 2:
		return b.layIn()
	case 3:
		return b.getNode()
	case 4: // where another core was first, it has laid in the same node: keys are in a list but once
		b.Work, _ = b.Cas(Spot(b.R[0]), 0, b.R[3])
		return b.End(b.R[3], api.OK)
	}
	return b.At(b.Pc)
}

func (b atBucket) seeNode() api.Sys {
	b.Work = b.Load(1, Spot(b.R[0]))
	if b.R[1] != 0 {
		return b.End(b.R[1], api.OK)
	}
	if b.R[0] == 0 { // it was split from none: there is no table
		return b.End(0, api.ErrNone)
	}
	return b.On()
}

// layIn lays the bucket's key into the list, from the node of its parent on.
func (b atBucket) layIn() api.Sys {
	v, e := b.Told()
	if e != api.OK {
		return b.End(0, e)
	}
	b.R[2] = v
	return b.Call(api.OIns, listOf(v), rev.Sent(b.R[0]), 0)
}

// getNode is the node that has the bucket's key, whoever laid it in.
func (b atBucket) getNode() api.Sys {
	v, e := b.Told()
	if e == api.ErrFull {
		return b.End(0, e)
	}
	b.R[3] = v
	return b.On()
}
