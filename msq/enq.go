package msq

import (
	"hazel/api"
	"hazel/haz"
	"hazel/mem"
	"hazel/pack"
)

// The steps of OEnq that others lead to than the one ahead.
const (
	enqAgain = 5
	enqLink  = 9
)

// enqueue are the steps of OEnq: R0 is the queue, R1 the value, R2 its node, R3 the tail that was seen, R4 the Next that was seen, first of R2, then of the tail's node.
func enqueue() [12]func(w work) api.Sys {
	return [12]func(w work) api.Sys{
		work.askNode,
		work.getNode,
		work.layVal,
		work.seeNext,
		work.layNext,
		work.askTail,
		work.getTail,
		work.seeBehindTail,
		work.helpEnqueued,
		work.link,
		work.moveTail,
		work.endEnqueue,
	}
}

func (w work) askNode() api.Sys { return w.call(api.OAlloc) }

func (w work) getNode() api.Sys {
	v, e := w.told()
	if e != api.OK {
		return w.end(0, e)
	}
	w.R[2] = v
	return w.on()
}

func (w work) layVal() api.Sys { return w.store(mem.At(w.R[2], api.Val), w.R[1]).on() }

func (w work) seeNext() api.Sys { return w.load(4, next(w.R[2])).on() }

// layNext goes on from the tag that the node's Next had in its last use: a core that saw it there doesn't take it for the same.
func (w work) layNext() api.Sys {
	return w.store(next(w.R[2]), pack.Next(w.R[4], 0, 0)).on()
}

func (w work) askTail() api.Sys { return w.call(api.OProt, tail(w.R[0]), endSlot) }

func (w work) getTail() api.Sys {
	w.R[3], _ = w.told()
	return w.on()
}

func (w work) seeBehindTail() api.Sys {
	w = w.load(4, next(pack.Index(w.R[3])))
	if pack.Index(w.R[4]) == 0 {
		return w.at(enqLink)
	}
	return w.on()
}

// helpEnqueued moves the tail for a core that stopped ahead of that, so that nobody waits for it.
func (w work) helpEnqueued() api.Sys { return w.swapTail(pack.Index(w.R[4])).at(enqAgain) }

// link is where the value goes in.
func (w work) link() api.Sys {
	w, was := w.swap(next(pack.Index(w.R[3])), w.R[4], w.R[2])
	if !was {
		return w.at(enqAgain)
	}
	return w.log(api.EEnq, w.R[1]).on()
}

func (w work) moveTail() api.Sys { return w.swapTail(w.R[2]).on() }

func (w work) endEnqueue() api.Sys { return w.store(haz.Place(w.id, endSlot), 0).end(0, api.OK) }
