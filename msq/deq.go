package msq

import (
	"hazel/api"
	"hazel/haz"
	"hazel/mem"
	"hazel/pack"
)

// The steps of ODeq that others lead to than the one ahead.
const (
	deqAgain = 0
	deqHelp  = 4
	deqName  = 5
	deqLeave = 9
)

// dequeue are the steps of ODeq: R0 is the queue, R2 the head that was seen, R3 the tail, R4 the Next of the head's node, R5 and R6 what the op tells.
func dequeue() [11]func(w work) api.Sys {
	return [11]func(w work) api.Sys{
		work.askHead,
		work.getHead,
		work.seeTail,
		work.seeBehindHead,
		work.helpDequeued,
		work.nameItem,
		work.seeHead,
		work.seeVal,
		work.unlink,
		work.leaveEnd,
		work.endDequeue,
	}
}

func (w work) askHead() api.Sys { return w.call(api.OProt, Spot(w.R[0]), endSlot) }

func (w work) getHead() api.Sys {
	w.R[2], _ = w.told()
	return w.on()
}

func (w work) seeTail() api.Sys { return w.load(3, tail(w.R[0])).on() }

// seeBehindHead is where the queue was empty, if it was: a Next that tells a node never tells none again, as long as its own is named.
func (w work) seeBehindHead() api.Sys {
	head, last := pack.Index(w.R[2]), pack.Index(w.R[3])
	w = w.load(4, next(head))
	if pack.Index(w.R[4]) == 0 {
		w.R[5], w.R[6] = 0, int(api.ErrNone)
		return w.log(api.EEmpty, 0).at(deqLeave)
	}
	if head == last {
		return w.at(deqHelp)
	}
	return w.at(deqName)
}

// helpDequeued moves the tail ahead of the head: the head never passes it.
func (w work) helpDequeued() api.Sys { return w.swapTail(pack.Index(w.R[4])).at(deqAgain) }

func (w work) nameItem() api.Sys {
	return w.store(haz.Place(w.id, itemSlot), pack.Index(w.R[4])).on()
}

// seeHead makes the name good: as long as the head stands, the node behind it wasn't retired.
func (w work) seeHead() api.Sys {
	var head int
	w.s.M, head = mem.Load(w.s.M, Spot(w.R[0]))
	if head != w.R[2] {
		return w.at(deqAgain)
	}
	return w.on()
}

func (w work) seeVal() api.Sys { return w.load(5, mem.At(pack.Index(w.R[4]), api.Val)).on() }

// unlink is where the value goes out. Its node is the head's from then on, and the one that was is retired.
func (w work) unlink() api.Sys {
	w, was := w.swap(Spot(w.R[0]), w.R[2], pack.Index(w.R[4]))
	if !was {
		return w.at(deqAgain)
	}
	w.R[6] = int(api.OK)
	return w.log(api.EDeq, w.R[5]).call(api.ORetire, pack.Index(w.R[2]))
}

func (w work) leaveEnd() api.Sys { return w.store(haz.Place(w.id, endSlot), 0).on() }

func (w work) endDequeue() api.Sys {
	return w.store(haz.Place(w.id, itemSlot), 0).end(w.R[5], api.Errno(w.R[6]))
}
