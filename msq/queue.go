package msq

import (
	"hazel/api"
	"hazel/work"
)

// queue is a core at a step of an op of the queue R0.
type queue struct{ work.Work }

// step does the one that Pc tells; nothing, where there is none, or no such queue as R0 tells.
func (w queue) step(steps []func(w queue) api.Sys) api.Sys {
	if !isQueue(w.R[0]) || w.Pc < 0 || w.Pc >= len(steps) {
		return w.At(w.Pc)
	}
	return steps[w.Pc](w)
}

// swapTail moves the tail, if it is still the one that was seen in R3, on to a node. If it isn't, another core has moved it.
func (w queue) swapTail(node int) work.Work {
	after, _ := w.Swap(tail(w.R[0]), w.R[3], node, 0)
	return after
}
