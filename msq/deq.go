package msq

import (
	"hazel/api"
	"hazel/haz"
	"hazel/mem"
	"hazel/pack"
)

// The steps of ODeq that others lead to than the one ahead.
const (
	deqAgain = 0
	deqHelp  = 4
	deqName  = 5
	deqLeave = 9
)

// dequeue are the steps of ODeq: R0 is the queue, R2 the head that was seen, R3 the tail, R4 the Next of the head's node, R5 and R6 what the op tells.
func dequeue() [11]func(w queue) api.Sys {
	return [11]func(w queue) api.Sys{
		queue.askHead,
		queue.getHead,
		queue.seeTail,
		queue.seeBehindHead,
		queue.helpDequeued,
		queue.nameItem,
		queue.seeHead,
		queue.seeVal,
		queue.unlink,
		queue.leaveEnd,
		queue.endDequeue,
	}
}

func (w queue) askHead() api.Sys { return w.Call(api.OProt, Spot(w.R[0]), endSlot) }

func (w queue) getHead() api.Sys {
	w.R[2], _ = w.Told()
	return w.On()
}

func (w queue) seeTail() api.Sys { return w.Load(3, tail(w.R[0])).On() }

// seeBehindHead is where the queue was empty, if it was: a Next that tells a node never tells none again, as long as its own is named.
func (w queue) seeBehindHead() api.Sys {
	head, last := pack.Index(w.R[2]), pack.Index(w.R[3])
	w.Work = w.Load(4, next(head))
	if pack.Index(w.R[4]) == 0 {
		w.R[5], w.R[6] = 0, int(api.ErrNone)
		return w.Log(api.EEmpty, w.R[0], 0).At(deqLeave)
	}
	if head == last {
		return w.At(deqHelp)
	}
	return w.At(deqName)
}

// helpDequeued moves the tail ahead of the head: the head never passes it.
func (w queue) helpDequeued() api.Sys { return w.swapTail(pack.Index(w.R[4])).At(deqAgain) }

func (w queue) nameItem() api.Sys {
	return w.Store(haz.Place(w.Id, itemSlot), pack.Index(w.R[4])).On()
}

// seeHead makes the name good: as long as the head stands, the node behind it wasn't retired.
func (w queue) seeHead() api.Sys {
	var stands bool
	w.Work, stands = w.Holds(Spot(w.R[0]), w.R[2])
	if !stands {
		return w.At(deqAgain)
	}
	return w.On()
}

func (w queue) seeVal() api.Sys { return w.Load(5, mem.At(pack.Index(w.R[4]), api.Val)).On() }

// unlink is where the value goes out. Its node is the head's from then on, and the one that was is retired.
func (w queue) unlink() api.Sys {
	var was bool
	w.Work, was = w.Swap(Spot(w.R[0]), w.R[2], pack.Index(w.R[4]), 0)
	if !was {
		return w.At(deqAgain)
	}
	w.R[6] = int(api.OK)
	return w.Log(api.EDeq, w.R[0], w.R[5]).Call(api.ORetire, pack.Index(w.R[2]))
}

func (w queue) leaveEnd() api.Sys { return w.Store(haz.Place(w.Id, endSlot), 0).On() }

func (w queue) endDequeue() api.Sys {
	return w.Store(haz.Place(w.Id, itemSlot), 0).End(w.R[5], api.Errno(w.R[6]))
}
