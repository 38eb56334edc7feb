// Package work is what layers have in common: a core at a step of its top, what such a step does, and how a first node is taken for what is made. It stands beside the layers, over stack and below msq.
package work

import (
	"hazel/api"
	"hazel/core"
	"hazel/mem"
	"hazel/pack"
)

// Work is a core at a step: the system, the core's top as the step changes it, and the core's place. On, At, Call, CallTo and End tell the system behind the step; ahead of them the top stands in the system as it was.
type Work struct {
	api.Sys
	api.Frame
	Id int
}

// Of is a core ahead of a step. Where there is no such core, or it has no frame, its op is 0, that is none.
func Of(s api.Sys, id int) Work {
	f, _ := core.Top(s, id)
	return Work{Sys: s, Frame: f, Id: id}
}

// At is the system whose core goes on at a step.
func (w Work) At(pc int) api.Sys {
	w.Pc = pc
	return core.Set(w.Sys, w.Id, w.Frame)
}

// On is the system whose core goes on at the next step.
func (w Work) On() api.Sys { return w.At(w.Pc + 1) }

// Call lays another op over this one, which goes on at its next step behind that.
func (w Work) Call(op int, args ...int) api.Sys { return w.CallTo(w.Pc+1, op, args...) }

// CallTo lays another op over this one, which goes on at a step that is told behind that. The step is set ahead of the call: behind it this one is no longer the top.
func (w Work) CallTo(pc, op int, args ...int) api.Sys {
	return core.Call(w.At(pc), w.Id, op, args...)
}

// End is the system whose core has ended the op.
func (w Work) End(v int, e api.Errno) api.Sys { return core.Back(w.Sys, w.Id, v, e) }

// Told is the last op's V and E.
func (w Work) Told() (int, api.Errno) { return w.C[w.Id].V, w.C[w.Id].E }

// Log tells what took effect; B is 0 in all that is told.
func (w Work) Log(kind, a, v int) Work {
	w.Sys = core.Log(w.Sys, w.Id, kind, a, 0, v)
	return w
}

// Load puts the word at a place into a register.
func (w Work) Load(r, at int) Work {
	w.M, w.R[r] = mem.Load(w.M, at)
	return w
}

// Holds: is the word at a place the one that was seen?
func (w Work) Holds(at, seen int) (Work, bool) {
	var word int
	w.M, word = mem.Load(w.M, at)
	return w, word == seen
}

// Store lays a word.
func (w Work) Store(at, v int) Work {
	w.M = mem.Store(w.M, at, v)
	return w
}

// Cas compares the word at a place with one that was seen, and swaps it to another one.
func (w Work) Cas(at, seen, to int) (Work, bool) {
	var was bool
	w.M, was = mem.Cas(w.M, at, seen, to)
	return w, was
}

// Swap compares the word at a place with one that was seen, and swaps it to its next one, of an index and a mark.
func (w Work) Swap(at, seen, index, mark int) (Work, bool) {
	return w.Cas(at, seen, pack.Next(seen, index, mark))
}
