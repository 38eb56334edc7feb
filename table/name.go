package table

import (
	"hazel/api"
	"hazel/rev"
	"hazel/work"
)

// toCount is the step of OPut and of OCut at which they look at how many names there are.
const toCount = 4

// atName is a core at a step of an op of the name R0: R2 is the size that it saw.
type atName struct{ work.Work }

// step does the one that Pc tells; nothing, where there is none, or no such name.
func (n atName) step() api.Sys {
	if n.R[0] < 0 || n.R[0] >= names {
		return n.At(n.Pc)
	}
	switch n.Op {
	case api.OPut:
		return n.put()
	case api.OLook:
		return n.look()
	case api.OCut:
		return n.cut()
	}
	return n.At(n.Pc)
}

// put is a step of OPut: R1 is what the name tells, R4 how many names there were.
func (n atName) put() api.Sys {
	switch n.Pc {
	case 3:
		if _, e := n.Told(); e != api.OK {
			return n.End(0, e)
		}
		return n.On()
	case toCount:
		return n.seeCount()
	case 5:
		n, was := n.count(1)
		if !was {
			return n.At(toCount)
		}
		return n.On()
	case 6:
		return n.double().End(0, api.OK)
	}
	return n.reach(func(list, key int) api.Sys { return n.Call(api.OIns, list, key, n.R[1]) })
}

// look is a step of OLook.
func (n atName) look() api.Sys {
	if n.Pc == 3 {
		return n.End(n.Told())
	}
	return n.reach(func(list, key int) api.Sys { return n.Call(api.OGet, list, key) })
}

// cut is a step of OCut: R3 is what the name told, R4 how many names there were.
func (n atName) cut() api.Sys {
	switch n.Pc {
	case 3:
		v, e := n.Told()
		if e != api.OK {
			return n.End(0, e)
		}
		n.R[3] = v
		return n.On()
	case toCount:
		return n.seeCount()
	case 5:
		n, was := n.count(-1)
		if !was {
			return n.At(toCount)
		}
		return n.End(n.R[3], api.OK)
	}
	return n.reach(func(list, key int) api.Sys { return n.Call(api.ODel, list, key) })
}

// reach is one of the three steps that all ops of a name begin with. They differ in what is done with the name's list alone.
func (n atName) reach(do func(list, key int) api.Sys) api.Sys {
	switch n.Pc {
	case 0:
		n.Work = n.Load(2, sizeAt)
		return n.On()
	case 1:
		return n.Call(api.OBucket, rev.Bucket(n.R[0], n.R[2]))
	case 2:
		node, e := n.Told()
		if e != api.OK {
			return n.End(0, e)
		}
		return do(listOf(node), rev.Ord(n.R[0]))
	}
	return n.At(n.Pc)
}

func (n atName) seeCount() api.Sys {
	n.Work = n.Load(4, countAt)
	return n.On()
}

// count makes the names more by so many, if there are still as many as were seen.
func (n atName) count(by int) (atName, bool) {
	var was bool
	n.Work, was = n.Cas(countAt, n.R[4], n.R[4]+by)
	return n, was
}

// double doubles the size that was seen, if there are at least twice as many names. It tries just once: if that isn't the size any more, another core has doubled it.
func (n atName) double() atName {
look:
	for size := n.R[2]; size >= 1 && size <= buckets/2; {
		if n.R[4] < 2*size {
			break look
		}
		n.Work, _ = n.Cas(sizeAt, size, 2*size)
		break look
	}
	return n
}
