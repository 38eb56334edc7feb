package event_test

import (
	"slices"
	"testing"

	"hazel/api"
	"hazel/core"
	"hazel/event"
)

// roomy is the same system with room behind each list's end, where a mark stands.
func roomy(s api.Sys) api.Sys {
	r := clone(s)
	for id := range r.C {
		c := &r.C[id]
		for i := range c.F {
			c.F[i].S = room(c.F[i].S, 777)
		}
		c.F = room(c.F, api.Frame{Op: 777})
		c.Ret = room(c.Ret, 777)
	}
	r.C = room(r.C, api.Core{V: 777})
	r.L = room(r.L, api.Ev{Core: 777})
	r.M.W = room(r.M.W, 777)
	r.M.G = room(r.M.G, 777)
	return r
}

func room[T any](l []T, mark T) []T { return append(slices.Clip(l), mark)[:len(l)] }

// stands: do all marks of a roomy system stand?
func stands(s api.Sys) bool {
	is := end(s.C).V == 777 && end(s.L).Core == 777 && end(s.M.W) == 777 && end(s.M.G) == 777
	for _, c := range s.C {
		is = is && end(c.F).Op == 777 && end(c.Ret) == 777
		for _, f := range c.F {
			is = is && end(f.S) == 777
		}
	}
	return is
}

// end is what stands behind a list's end.
func end[T any](l []T) T { return l[:len(l)+1][len(l)] }

// spoil writes into all that a system has.
func spoil(s api.Sys) {
	for id := range s.C {
		c := &s.C[id]
		for i := range c.F {
			clear(c.F[i].S)
			c.F[i].Op = -7
		}
		for i := range c.Ret {
			c.Ret[i] = -7
		}
		c.V, c.X = -7, [3]int{-7, -7, -7}
	}
	for i := range s.M.W {
		s.M.W[i] = -7
	}
	for i := range s.M.G {
		s.M.G[i] = -7
	}
	clear(s.L)
}

// tops are systems of three cores whose core 1 is at each kind of step: of these ops, of those below, of others, and of none.
func tops() []api.Sys {
	var all []api.Sys
	for op := 0; op <= api.OReady; op++ {
		for pc := -1; pc <= 7; pc++ {
			for _, r := range [][]int{{1, packed(2, 1, 1)}, {-1, packed(2, 1, 1)}, {16, 0}, {2, 5, 4, 5, 4}} {
				for _, word := range []int{packed(2, 1, 1), packed(2, 0, 1), packed(2, 1, 0)} {
					s := over(lay(six(), 3), 1, frame(op, pc, r...))
					s.M.W[eventAt+1], s.M.W[eventAt+2] = word, word
					all = append(all, s)
				}
			}
		}
	}
	return all
}

// TestUntouched: R3, the system, its arena, cores, what they found and have retired, frames, what these hold in S, and events aren't written into, also where lists have room behind their ends, and what was answered stays as it was behind later calls.
func TestUntouched(t *testing.T) {
	for _, s := range tops() {
		s = roomy(s)
		kept, f := clone(s), s.C[1].F[len(s.C[1].F)-1]
		a := event.Step(s, 1)
		first := clone(a)
		b := event.Step(a, 1)
		second := clone(b)
		event.Step(event.Step(b, 1), 1)
		event.Step(s, 0)
		event.Step(s, 3)
		event.Is(s, 1)
		if !same(s, kept) || !same(a, first) || !same(b, second) {
			t.Errorf("op %d, step %d: written into", f.Op, f.Pc)
		}
		if !stands(s) {
			t.Errorf("op %d, step %d: written behind a list's end", f.Op, f.Pc)
		}
		spoil(a)
		if !same(s, kept) || !same(b, second) {
			t.Errorf("op %d, step %d: shared", f.Op, f.Pc)
		}
	}
}

// TestMakeKept: R3, Make writes neither into the system, nor into what it answered ahead, with an error and without.
func TestMakeKept(t *testing.T) {
	for _, e := range []int{-1, 0, 7, 15, 16} {
		s := roomy(over(lay(six(), 2), 1, frame(api.OSet, 0, 1)))
		kept := clone(s)
		a, _ := event.Make(s, e, true)
		first := clone(a)
		b, _ := event.Make(a, e, false)
		event.Make(s, e, false)
		if !same(s, kept) || !stands(s) || !same(a, first) {
			t.Errorf("%d: written into", e)
		}
		second := clone(b)
		spoil(a)
		if !same(s, kept) || !same(b, second) {
			t.Errorf("%d: shared", e)
		}
	}
}

// TestUntouchedRun: R3, each state of a run of all ops, of two cores by turns, stays as it was behind all that come.
func TestUntouchedRun(t *testing.T) {
	s, pick := start(t, 2), picker()
	var states, kept []api.Sys
	for i := range 400 {
		id := i % 2
		if len(s.C[id].F) == 0 {
			s = core.Call(s, id, ops[pick(3)], pick(2))
		}
		s = roomy(s)
		states, kept = append(states, s), append(kept, clone(s))
		s = event.Step(s, id)
	}
	if len(s.L) < 150 || s.M.Bad {
		t.Errorf("%d events, Bad %t", len(s.L), s.M.Bad)
	}
	for i := range states {
		if !same(states[i], kept[i]) || !stands(states[i]) {
			t.Errorf("state %d: written into", i)
		}
	}
}

// TestTwoFromOne: R3, two that go on from one state, by two cores, don't see each other.
func TestTwoFromOne(t *testing.T) {
	s := roomy(run(t, start(t, 2), 0, api.OSet, 3))
	a := run(t, s, 0, api.OTest, 3)
	b := run(t, s, 1, api.OTest, 3)
	c := run(t, s, 1, api.OReset, 3)
	for i, x := range []struct {
		s   api.Sys
		set bool
		ev  []api.Ev
	}{
		{a, false, []api.Ev{{Kind: api.ESet, A: 3}, {Kind: api.ETest, A: 3, V: 1}}},
		{b, false, []api.Ev{{Kind: api.ESet, A: 3}, {Core: 1, Kind: api.ETest, A: 3, V: 1}}},
		{c, false, []api.Ev{{Kind: api.ESet, A: 3}, {Core: 1, Kind: api.EReset, A: 3}}},
		{s, true, []api.Ev{{Kind: api.ESet, A: 3}}},
	} {
		if set, self := event.Is(x.s, 3); set != x.set || !self || !slices.Equal(x.s.L, x.ev) {
			t.Errorf("%d: %t, %t, %v", i, set, self, x.s.L)
		}
	}
}

// TestTwice: R4, the same arguments, the same answers.
func TestTwice(t *testing.T) {
	for i, s := range tops() {
		if !same(event.Step(s, 1), event.Step(clone(s), 1)) {
			t.Errorf("two answers: %v", s.C[1])
		}
		a, e := event.Make(s, i%20-2, i%2 == 0)
		b, f := event.Make(clone(s), i%20-2, i%2 == 0)
		if !same(a, b) || e != f {
			t.Errorf("two events: %v, %v", a, b)
		}
	}
}
