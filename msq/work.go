package msq

import (
	"hazel/api"
	"hazel/core"
	"hazel/mem"
	"hazel/pack"
)

// work is a core at a step of an op: its top is the frame.
type work struct {
	api.Frame
	s  api.Sys
	id int
}

// step does the one that Pc tells; nothing, where there is none, or no such queue as R0 tells.
func (w work) step(steps []func(w work) api.Sys) api.Sys {
	if !isQueue(w.R[0]) || w.Pc < 0 || w.Pc >= len(steps) {
		return w.at(w.Pc)
	}
	return steps[w.Pc](w)
}

// at is the system whose core goes on at a step.
func (w work) at(pc int) api.Sys {
	w.Pc = pc
	return core.Set(w.s, w.id, w.Frame)
}

// on is the system whose core goes on at the next step.
func (w work) on() api.Sys { return w.at(w.Pc + 1) }

// call lays another op over this one, which goes on at its next step behind that. The step is set ahead of the call: behind it this one is no longer the top.
func (w work) call(op int, args ...int) api.Sys {
	return core.Call(w.on(), w.id, op, args...)
}

// end is the system whose core has ended the op.
func (w work) end(v int, e api.Errno) api.Sys { return core.Back(w.s, w.id, v, e) }

// told is the last op's V and E.
func (w work) told() (int, api.Errno) { return w.s.C[w.id].V, w.s.C[w.id].E }

// log tells what took effect at the queue.
func (w work) log(kind, v int) work {
	w.s = core.Log(w.s, w.id, kind, w.R[0], 0, v)
	return w
}

// load puts the word at a place into a register.
func (w work) load(r, at int) work {
	w.s.M, w.R[r] = mem.Load(w.s.M, at)
	return w
}

func (w work) store(at, v int) work {
	w.s.M = mem.Store(w.s.M, at, v)
	return w
}

// swap compares the word at a place with one that was seen, and swaps it to its next one, of an index, and without a mark.
func (w work) swap(at, seen, index int) (work, bool) {
	var was bool
	w.s.M, was = mem.Cas(w.s.M, at, seen, pack.Next(seen, index, 0))
	return w, was
}

// swapTail moves the tail, if it is still the one that was seen in R3, on to a node. If it isn't, another core has moved it.
func (w work) swapTail(node int) work {
	w, _ = w.swap(tail(w.R[0]), w.R[3], node)
	return w
}
