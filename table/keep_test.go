package table_test

import (
	"slices"
	"testing"

	"hazel/api"
	"hazel/core"
	"hazel/table"
)

// roomy is the same system with room behind each list's end, where a mark stands.
func roomy(s api.Sys) api.Sys {
	r := clone(s)
	for id := range r.C {
		c := &r.C[id]
		for i := range c.F {
			c.F[i].S = room(c.F[i].S, 777)
		}
		c.F = room(c.F, api.Frame{Op: 777})
		c.Ret = room(c.Ret, 777)
	}
	r.C = room(r.C, api.Core{V: 777})
	r.L = room(r.L, api.Ev{Core: 777})
	r.M.W = room(r.M.W, 777)
	r.M.G = room(r.M.G, 777)
	return r
}

func room[T any](l []T, mark T) []T { return append(slices.Clip(l), mark)[:len(l)] }

// stands: do all marks of a roomy system stand?
func stands(s api.Sys) bool {
	is := end(s.C).V == 777 && end(s.L).Core == 777 && end(s.M.W) == 777 && end(s.M.G) == 777
	for _, c := range s.C {
		is = is && end(c.F).Op == 777 && end(c.Ret) == 777
		for _, f := range c.F {
			is = is && end(f.S) == 777
		}
	}
	return is
}

// end is what stands behind a list's end.
func end[T any](l []T) T { return l[:len(l)+1][len(l)] }

// spoil writes into all that a system has.
func spoil(s api.Sys) {
	for id := range s.C {
		c := &s.C[id]
		for i := range c.F {
			clear(c.F[i].S)
			c.F[i].Op = -7
		}
		for i := range c.Ret {
			c.Ret[i] = -7
		}
		c.V, c.X = -7, [3]int{-7, -7, -7}
	}
	for i := range s.M.W {
		s.M.W[i] = -7
	}
	for i := range s.M.G {
		s.M.G[i] = -7
	}
	clear(s.L)
}

// tops are systems of three cores whose core 1 is at each kind of step: of these ops, of those below, of others, and of none.
func tops() []api.Sys {
	two := packed(4, 2, 0)
	var all []api.Sys
	for op := 0; op <= api.OSet; op++ {
		for pc := -1; pc <= 14; pc++ {
			for _, e := range []api.Errno{api.OK, api.ErrFull} {
				for _, r := range [][]int{{1, 9, 2, 5, 4}, {-1, 9, 2, 5, 4}, {100, 5, 2, 100, two, packed(6, 5, 1)}} {
					for _, words := range [][]int{{2, 4, 2, 0}, {2, 4, 2, 5}, {4, 5, 0, 0}} {
						s := over(lay(six(), 3), 1, frame(op, pc, r...))
						s.C[1].V, s.C[1].E, s.M.W[100] = 5, e, two
						copy(s.M.W[sizeAt:], words)
						all = append(all, s)
					}
				}
			}
		}
	}
	return all
}

// TestUntouched: R3, the system, its arena, cores, what they found and have retired, frames, what these hold in S, and events aren't written into, also where lists have room behind their ends, and what was answered stays as it was behind later calls.
func TestUntouched(t *testing.T) {
	for _, s := range tops() {
		s = roomy(s)
		kept, f := clone(s), s.C[1].F[len(s.C[1].F)-1]
		a := table.Step(s, 1)
		first := clone(a)
		b := table.Step(a, 1)
		second := clone(b)
		table.Step(table.Step(b, 1), 1)
		table.Step(s, 0)
		table.Step(s, 3)
		if !same(s, kept) || !same(a, first) || !same(b, second) {
			t.Errorf("op %d, step %d: written into", f.Op, f.Pc)
		}
		if !stands(s) {
			t.Errorf("op %d, step %d: written behind a list's end", f.Op, f.Pc)
		}
		spoil(a)
		if !same(s, kept) || !same(b, second) {
			t.Errorf("op %d, step %d: shared", f.Op, f.Pc)
		}
	}
}

// TestMakeKept: R3, Make writes neither into the system, nor into what it answered ahead, with an error and without.
func TestMakeKept(t *testing.T) {
	empty := lay(six(), 2)
	empty.M.W[0] = 0
	for i, s := range []api.Sys{start(t, 2, 5), empty} {
		s = roomy(s)
		kept := clone(s)
		a, _ := table.Make(s)
		first := clone(a)
		b, _ := table.Make(a)
		table.Make(s)
		if !same(s, kept) || !stands(s) || !same(a, first) {
			t.Errorf("%d: written into", i)
		}
		second := clone(b)
		spoil(a)
		if !same(s, kept) || !same(b, second) {
			t.Errorf("%d: shared", i)
		}
	}
}

// TestNamesKept: R3, Names doesn't write into the system, and its lists are memory of their own, each of its own.
func TestNamesKept(t *testing.T) {
	s := start(t, 1, 9)
	s = roomy(run(t, run(t, s, 0, api.OPut, 4, 60), 0, api.OPut, 6, 70))
	kept := clone(s)
	n, v, _ := table.Names(s)
	names, tell, _ := table.Names(s)
	_, _ = append(n, 5), append(v, 5)
	clear(n)
	if !slices.Equal(v, []int{60, 70}) {
		t.Errorf("%v", v)
	}
	clear(v)
	if !same(s, kept) || !stands(s) || !slices.Equal(names, []int{4, 6}) || !slices.Equal(tell, []int{60, 70}) {
		t.Errorf("%v, %v, %v", names, tell, s)
	}
	checkNames(t, s, 4, 60, 6, 70)
}

// TestUntouchedRun: R3, each state of a run of all ops, in which the table grows, stays as it was behind all that come.
func TestUntouchedRun(t *testing.T) {
	s := start(t, 2, 40)
	var states, kept []api.Sys
	for i := range 40 {
		s = core.Call(s, 0, []int{api.OPut, api.OPut, api.OLook, api.OPut, api.OCut}[i%5], i*5%9, i)
		for len(s.C[0].F) > 0 && len(states) < 2500 {
			s = roomy(s)
			states, kept = append(states, s), append(kept, clone(s))
			s = table.Step(s, 0)
		}
	}
	if len(states) < 600 || s.M.Bad || s.M.W[sizeAt] < 4 {
		t.Errorf("%d states, Bad %t, size %d", len(states), s.M.Bad, s.M.W[sizeAt])
	}
	for i := range states {
		if !same(states[i], kept[i]) || !stands(states[i]) {
			t.Errorf("state %d: written into", i)
		}
	}
}

// TestTwoFromOne: R3, two that go on from one state, by two cores, don't see each other.
func TestTwoFromOne(t *testing.T) {
	s := roomy(run(t, start(t, 2, 9), 0, api.OPut, 4, 50))
	a := run(t, s, 0, api.OPut, 6, 70)
	b := run(t, s, 1, api.OCut, 4)
	c := run(t, s, 1, api.OPut, 1, 30)
	checkNames(t, a, 4, 50, 6, 70)
	checkNames(t, b)
	checkNames(t, c, 4, 50, 1, 30)
	checkNames(t, s, 4, 50)
	if a.L[1].V != 70 || b.L[1].Kind != api.EDel || c.L[1].V != 30 || len(s.L) != 1 || s.M.W[nodesAt+1] != 0 {
		t.Errorf("%v, %v, %v, %v", a.L, b.L, c.L, s.L)
	}
}

// TestTwice: R4, the same arguments, the same answers.
func TestTwice(t *testing.T) {
	for _, s := range tops() {
		if !same(table.Step(s, 1), table.Step(clone(s), 1)) {
			t.Errorf("two answers: %v", s.C[1])
		}
		a, e := table.Make(s)
		b, f := table.Make(clone(s))
		if !same(a, b) || e != f {
			t.Errorf("two tables: %v, %v", a, b)
		}
	}
}
