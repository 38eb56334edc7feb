package list

import (
	"hazel/haz"
	"hazel/mem"
	"hazel/pack"
	"hazel/work"
)

// The slots that a core at a list uses.
const (
	nodeSlot  = iota + 1 // names the node that is looked at
	aheadSlot            // names the one ahead of it, if there is one
)

// seeker is a core at a step of an op of the list R0 and the key R1.
type seeker struct{ work.Work }

// cell is the place of a cell of the node that a packed word tells.
func cell(w, c int) int { return mem.At(pack.Index(w), c) }

// name makes a slot name a node.
func (w seeker) name(slot, node int) work.Work { return w.Store(haz.Place(w.Id, slot), node) }

// leave makes a slot name none.
func (w seeker) leave(slot int) work.Work { return w.name(slot, 0) }

// found is what the last OFind told: is the key there, and where it was looked for.
func (w seeker) found() (bool, [3]int) {
	v, _ := w.Told()
	return v != 0, w.C[w.Id].X
}

// tell tells what took effect at the key; nothing, if that is even: it is no name's.
func (w seeker) tell(kind, v int) seeker {
	if w.R[1]%2 != 0 {
		w.Work = w.Log(kind, w.R[1], v)
	}
	return w
}

// unlink takes the node of R4 out, so that the place R3 tells the one of R5. If the word there isn't R4, it is another core's to be taken out, or will be found again.
func (w seeker) unlink() (seeker, bool) {
	var was bool
	w.Work, was = w.Swap(w.R[3], w.R[4], pack.Index(w.R[5]), 0)
	return w, was
}
