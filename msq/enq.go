package msq

import (
	"hazel/api"
	"hazel/haz"
	"hazel/mem"
	"hazel/pack"
)

// The steps of OEnq that others lead to than the one ahead.
const (
	enqAgain = 5
	enqLink  = 9
)

// enqueue are the steps of OEnq: R0 is the queue, R1 the value, R2 its node, R3 the tail that was seen, R4 the Next that was seen, first of R2, then of the tail's node.
func enqueue() [12]func(w queue) api.Sys {
	return [12]func(w queue) api.Sys{
		queue.askNode,
		queue.getNode,
		queue.layVal,
		queue.seeNext,
		queue.layNext,
		queue.askTail,
		queue.getTail,
		queue.seeBehindTail,
		queue.helpEnqueued,
		queue.link,
		queue.moveTail,
		queue.endEnqueue,
	}
}

func (w queue) askNode() api.Sys { return w.Call(api.OAlloc) }

func (w queue) getNode() api.Sys {
	v, e := w.Told()
	if e != api.OK {
		return w.End(0, e)
	}
	w.R[2] = v
	return w.On()
}

func (w queue) layVal() api.Sys { return w.Store(mem.At(w.R[2], api.Val), w.R[1]).On() }

func (w queue) seeNext() api.Sys { return w.Load(4, next(w.R[2])).On() }

// layNext goes on from the tag that the node's Next had in its last use: a core that saw it there doesn't take it for the same.
func (w queue) layNext() api.Sys {
	return w.Store(next(w.R[2]), pack.Next(w.R[4], 0, 0)).On()
}

func (w queue) askTail() api.Sys { return w.Call(api.OProt, tail(w.R[0]), endSlot) }

func (w queue) getTail() api.Sys {
	w.R[3], _ = w.Told()
	return w.On()
}

func (w queue) seeBehindTail() api.Sys {
	w.Work = w.Load(4, next(pack.Index(w.R[3])))
	if pack.Index(w.R[4]) == 0 {
		return w.At(enqLink)
	}
	return w.On()
}

// helpEnqueued moves the tail for a core that stopped ahead of that, so that nobody waits for it.
func (w queue) helpEnqueued() api.Sys { return w.swapTail(pack.Index(w.R[4])).At(enqAgain) }

// link is where the value goes in.
func (w queue) link() api.Sys {
	var was bool
	w.Work, was = w.Swap(next(pack.Index(w.R[3])), w.R[4], w.R[2], 0)
	if !was {
		return w.At(enqAgain)
	}
	return w.Log(api.EEnq, w.R[0], w.R[1]).On()
}

func (w queue) moveTail() api.Sys { return w.swapTail(w.R[2]).On() }

func (w queue) endEnqueue() api.Sys { return w.Store(haz.Place(w.Id, endSlot), 0).End(0, api.OK) }
