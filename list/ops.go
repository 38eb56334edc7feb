package list

import (
	"hazel/api"
	"hazel/mem"
	"hazel/pack"
)

// The steps that others lead to than the one ahead.
const (
	getLeave    = 3
	insertAgain = 4
	insertHad   = 11
	removeAgain = 0
	removeTidy  = 5
	removeLeave = 6
)

// get is a step of OGet: R4 is the word that tells the key's node, R7 and R6 what the op tells.
func (w seeker) get() api.Sys {
	switch w.Pc {
	case 0:
		return w.Call(api.OFind, w.R[0], w.R[1], toGet)
	case 1:
		is, x := w.found()
		if !is {
			return w.tellNone(getLeave)
		}
		w.R[4] = x[1]
		return w.On()
	case 2:
		return w.seeVal()
	case 3:
		return w.leave(nodeSlot).On()
	case 4:
		return w.leave(aheadSlot).End(w.R[7], api.Errno(w.R[6]))
	}
	return w.At(w.Pc)
}

// insert is a step of OIns: R2 is the value, R3 its node, R4 the place where it is linked, R5 the word that was seen there, R6 the Next of R3, R7 the node that has the key already.
func (w seeker) insert() api.Sys {
	node := w.R[3]
	switch w.Pc {
	case 0:
		return w.Call(api.OAlloc)
	case 1:
		return w.getNode()
	case 2:
		return w.Store(mem.At(node, api.Key), w.R[1]).On()
	case 3:
		return w.Store(mem.At(node, api.Val), w.R[2]).On()
	case 4:
		return w.Call(api.OFind, w.R[0], w.R[1], toInsert)
	case 5:
		return w.choose()
	case 6:
		return w.Load(6, mem.At(node, api.Next)).On()
	case 7: // the tag goes on from the node's last use: a core that saw its Next there doesn't take this for the same
		return w.Store(mem.At(node, api.Next), pack.Next(w.R[6], pack.Index(w.R[5]), 0)).On()
	case 8:
		return w.link()
	case 9, 12:
		return w.leave(nodeSlot).On()
	case 10:
		return w.leave(aheadSlot).End(node, api.OK)
	case 11:
		_, x := w.found()
		w.R[7] = pack.Index(x[1])
		return w.On()
	case 13:
		return w.leave(aheadSlot).End(w.R[7], api.ErrHad)
	}
	return w.At(w.Pc)
}

// remove is a step of ODel: R3 is the place that tells the key's node, R4 the word there, R5 the node's Next, R7 and R6 what the op tells.
func (w seeker) remove() api.Sys {
	switch w.Pc {
	case 0:
		return w.Call(api.OFind, w.R[0], w.R[1], toRemove)
	case 1:
		is, x := w.found()
		if !is {
			return w.tellNone(removeLeave)
		}
		w.R[3], w.R[4], w.R[5] = x[0], x[1], x[2]
		return w.On()
	case 2:
		return w.mark()
	case 3:
		return w.seeVal()
	case 4:
		return w.takeOut()
	case 5:
		return w.Call(api.OFind, w.R[0], w.R[1], toTidy)
	case 6:
		return w.leave(nodeSlot).On()
	case 7:
		return w.leave(aheadSlot).End(w.R[7], api.Errno(w.R[6]))
	}
	return w.At(w.Pc)
}

// tellNone lays into the registers that the key isn't there, and goes on at a step.
func (w seeker) tellNone(pc int) api.Sys {
	w.R[7], w.R[6] = 0, int(api.ErrNone)
	return w.At(pc)
}

func (w seeker) seeVal() api.Sys {
	w.Work = w.Load(7, cell(w.R[4], api.Val))
	w.R[6] = int(api.OK)
	return w.On()
}

func (w seeker) getNode() api.Sys {
	v, e := w.Told()
	if e != api.OK {
		return w.End(0, e)
	}
	w.R[3] = v
	return w.On()
}

// choose drops the node, if the key is there already: nobody else has seen it.
func (w seeker) choose() api.Sys {
	is, x := w.found()
	if is {
		return w.CallTo(insertHad, api.ODrop, w.R[3])
	}
	w.R[4], w.R[5] = x[0], x[1]
	return w.On()
}

// link is where the key goes in.
func (w seeker) link() api.Sys {
	var was bool
	w.Work, was = w.Swap(w.R[4], w.R[5], w.R[3], 0)
	if !was {
		return w.At(insertAgain)
	}
	return w.tell(api.EIns, w.R[2]).On()
}

// mark is where the key goes out: from then on its node tells no way, and anybody may take it out.
func (w seeker) mark() api.Sys {
	var was bool
	w.Work, was = w.Swap(cell(w.R[4], api.Next), w.R[5], pack.Index(w.R[5]), 1)
	if !was {
		return w.At(removeAgain)
	}
	return w.tell(api.EDel, 0).On()
}

// takeOut takes the node out that the core has marked; where it can't, another search does.
func (w seeker) takeOut() api.Sys {
	w, was := w.unlink()
	if !was {
		return w.At(removeTidy)
	}
	return w.CallTo(removeLeave, api.ORetire, pack.Index(w.R[4]))
}
