package list_test

import (
	"slices"
	"testing"

	"hazel/api"
	"hazel/core"
	"hazel/list"
)

// roomy is the same system with room behind each list's end, where a mark stands.
func roomy(s api.Sys) api.Sys {
	r := clone(s)
	for id := range r.C {
		c := &r.C[id]
		for i := range c.F {
			c.F[i].S = room(c.F[i].S, 777)
		}
		c.F = room(c.F, api.Frame{Op: 777})
		c.Ret = room(c.Ret, 777)
	}
	r.C = room(r.C, api.Core{V: 777})
	r.L = room(r.L, api.Ev{Core: 777})
	r.M.W = room(r.M.W, 777)
	r.M.G = room(r.M.G, 777)
	return r
}

func room[T any](l []T, mark T) []T { return append(slices.Clip(l), mark)[:len(l)] }

// stands: do all marks of a roomy system stand?
func stands(s api.Sys) bool {
	is := end(s.C).V == 777 && end(s.L).Core == 777 && end(s.M.W) == 777 && end(s.M.G) == 777
	for _, c := range s.C {
		is = is && end(c.F).Op == 777 && end(c.Ret) == 777
		for _, f := range c.F {
			is = is && end(f.S) == 777
		}
	}
	return is
}

// end is what stands behind a list's end.
func end[T any](l []T) T { return l[:len(l)+1][len(l)] }

// spoil writes into all that a system has.
func spoil(s api.Sys) {
	for id := range s.C {
		c := &s.C[id]
		for i := range c.F {
			clear(c.F[i].S)
			c.F[i].Op = -7
		}
		for i := range c.Ret {
			c.Ret[i] = -7
		}
		c.V, c.X = -7, [3]int{-7, -7, -7}
	}
	for i := range s.M.W {
		s.M.W[i] = -7
	}
	for i := range s.M.G {
		s.M.G[i] = -7
	}
	clear(s.L)
}

// tops are systems of three cores whose core 1 is at each kind of step: of these ops, of those below, of others, and of none.
func tops() []api.Sys {
	two, gone := packed(4, 2, 0), packed(6, 5, 1)
	var all []api.Sys
	for op := 0; op <= api.OBucket; op++ {
		for pc := -1; pc <= 14; pc++ {
			for v := range 2 {
				for _, word := range []int{two, gone, packed(3, 0, 0)} {
					s := over(lay(six(), 3), 1, frame(op, pc, spot, 5, 0, spot, two, gone, 5+v))
					if op == api.OIns {
						s = over(lay(six(), 3), 1, frame(op, pc, spot, 5, 9, 5, spot, word))
					}
					s.C[1].V, s.C[1].E, s.C[1].X = v, api.Errno(2*v), [3]int{spot, two, gone}
					s.M.W[spot], s.M.W[cell(2, 1)] = word, gone
					if v > 0 {
						s.M.W[spot], s.M.W[cell(2, 1)], s.M.W[cell(2, 2)] = two, word, 5
					}
					all = append(all, s)
				}
			}
		}
	}
	return all
}

// TestUntouched: R3, the system, its arena, cores, what they found and have retired, frames, what these hold in S, and events aren't written into, also where lists have room behind their ends, and what was answered stays as it was behind later calls.
func TestUntouched(t *testing.T) {
	for _, s := range tops() {
		s = roomy(s)
		kept, f := clone(s), s.C[1].F[len(s.C[1].F)-1]
		a := list.Step(s, 1)
		first := clone(a)
		b := list.Step(a, 1)
		second := clone(b)
		list.Step(list.Step(b, 1), 1)
		list.Step(s, 0)
		list.Step(s, 3)
		if !same(s, kept) || !same(a, first) || !same(b, second) {
			t.Errorf("op %d, step %d: written into", f.Op, f.Pc)
		}
		if !stands(s) {
			t.Errorf("op %d, step %d: written behind a list's end", f.Op, f.Pc)
		}
		spoil(a)
		if !same(s, kept) || !same(b, second) {
			t.Errorf("op %d, step %d: shared", f.Op, f.Pc)
		}
	}
}

// TestKeysKept: R3, Keys doesn't write into the system, and its lists are memory of their own, each of its own.
func TestKeysKept(t *testing.T) {
	s := start(t, 1, 5)
	s = roomy(run(t, run(t, s, 0, api.OIns, spot, 6, 60), 0, api.OIns, spot, 7, 70))
	kept := clone(s)
	k, v, _ := list.Keys(s, spot)
	keys, vals, _ := list.Keys(s, spot)
	_, _ = append(k, 5), append(v, 5)
	clear(k)
	if !slices.Equal(v, []int{60, 70}) {
		t.Errorf("%v", v)
	}
	clear(v)
	if !same(s, kept) || !stands(s) || !slices.Equal(keys, []int{6, 7}) || !slices.Equal(vals, []int{60, 70}) {
		t.Errorf("%v, %v, %v", keys, vals, s)
	}
	checkKeys(t, s, spot, 6, 60, 7, 70)
}

// TestUntouchedRun: R3, each state of a run of all ops, with scans, stays as it was behind all that come.
func TestUntouchedRun(t *testing.T) {
	s := start(t, 2, 4)
	var states, kept []api.Sys
	for i := range 30 {
		s = core.Call(s, 0, []int{api.OIns, api.OIns, api.OGet, api.ODel}[i%4], spot, i*5%3, i)
		for len(s.C[0].F) > 0 && len(states) < 1500 {
			s = roomy(s)
			states, kept = append(states, s), append(kept, clone(s))
			s = list.Step(s, 0)
		}
	}
	if len(states) < 400 || s.M.Bad {
		t.Errorf("%d states, Bad %t", len(states), s.M.Bad)
	}
	for i := range states {
		if !same(states[i], kept[i]) || !stands(states[i]) {
			t.Errorf("state %d: written into", i)
		}
	}
}

// TestTwoFromOne: R3, two that go on from one state, by two cores, don't see each other.
func TestTwoFromOne(t *testing.T) {
	s := roomy(run(t, start(t, 2, 4), 0, api.OIns, spot, 5, 50))
	a := run(t, s, 0, api.OIns, spot, 7, 70)
	b := run(t, s, 1, api.ODel, spot, 5)
	c := run(t, s, 1, api.OIns, spot, 3, 30)
	checkKeys(t, a, spot, 5, 50, 7, 70)
	checkKeys(t, b, spot)
	checkKeys(t, c, spot, 3, 30, 5, 50)
	checkKeys(t, s, spot, 5, 50)
	if a.L[1].V != 70 || b.L[1].Kind != api.EDel || c.L[1].V != 30 || len(s.L) != 1 {
		t.Errorf("%v, %v, %v, %v", a.L, b.L, c.L, s.L)
	}
}

// TestTwice: R4, the same arguments, the same answers.
func TestTwice(t *testing.T) {
	for _, s := range tops() {
		if !same(list.Step(s, 1), list.Step(clone(s), 1)) {
			t.Errorf("two answers: %v", s.C[1])
		}
	}
}
