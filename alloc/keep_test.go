package alloc_test

import (
	"slices"
	"testing"

	"hazel/alloc"
	"hazel/api"
	"hazel/core"
	"hazel/haz"
	"hazel/mem"
)

// roomy is the same system with room behind each list's end, where a mark stands.
func roomy(s api.Sys) api.Sys {
	r := clone(s)
	for id := range r.C {
		c := &r.C[id]
		for i := range c.F {
			c.F[i].S = room(c.F[i].S, 777)
		}
		c.F = room(c.F, api.Frame{Op: 777})
		c.Ret = room(c.Ret, 777)
	}
	r.C = room(r.C, api.Core{V: 777})
	r.L = room(r.L, api.Ev{Core: 777})
	r.M.W = room(r.M.W, 777)
	r.M.G = room(r.M.G, 777)
	return r
}

func room[T any](l []T, mark T) []T { return append(slices.Clip(l), mark)[:len(l)] }

// marked: do all marks of a roomy system stand?
func marked(s api.Sys) bool {
	is := end(s.C).V == 777 && end(s.L).Core == 777 && end(s.M.W) == 777 && end(s.M.G) == 777
	for _, c := range s.C {
		is = is && end(c.F).Op == 777 && end(c.Ret) == 777
		for _, f := range c.F {
			is = is && end(f.S) == 777
		}
	}
	return is
}

// end is what stands behind a list's end.
func end[T any](l []T) T { return l[:len(l)+1][len(l)] }

// tops are systems of three cores whose core 1 is at each kind of step: of these ops, of those below, of others, and of none.
func tops() []api.Sys {
	var all []api.Sys
	for op := 0; op <= api.OEnq; op++ {
		for pc := -1; pc <= 4; pc++ {
			for _, e := range []api.Errno{api.OK, api.ErrFull} {
				for _, ret := range [][]int{nil, {3, 6}, numbers(6, 30), numbers(200, 30)} {
					all = append(all, laid(change{f: frame(op, pc, 5, 1), v: 5, e: e, ret: ret}, 3, 1))
				}
			}
		}
	}
	deep := lay(six(), 3)
	deep.C[1].F = make([]api.Frame, 39)
	for _, f := range []api.Frame{frame(api.OAlloc, 0), frame(api.OAlloc, 1), frame(api.OAlloc, 2), frame(api.ODrop, 0, 5)} {
		all = append(all, over(deep, 1, f))
	}
	return all
}

// TestUntouched: R3, the system, its arena, cores, what they have retired, frames, what these hold in S, and events aren't written into, also where lists have room behind their ends, and what was answered stays as it was behind later calls.
func TestUntouched(t *testing.T) {
	for _, s := range tops() {
		s = roomy(s)
		kept, f := clone(s), s.C[1].F[len(s.C[1].F)-1]
		a := alloc.Step(s, 1)
		first := clone(a)
		b := alloc.Step(a, 1)
		second := clone(b)
		alloc.Step(alloc.Step(b, 1), 1)
		alloc.Step(s, 0)
		alloc.Step(s, 3)
		if !same(s, kept) || !same(a, first) || !same(b, second) {
			t.Errorf("op %d, step %d: written into", f.Op, f.Pc)
		}
		if !marked(s) {
			t.Errorf("op %d, step %d: written behind a list's end", f.Op, f.Pc)
		}
	}
}

// TestUntouchedRun: R3, each state of a run of both ops, with scans, stays as it was behind all that come.
func TestUntouchedRun(t *testing.T) {
	s := emptied(t, 2, 6, []int{2, 4, 5}, []int{6})
	s.M = mem.Store(s.M, haz.Place(1, 0), 4)
	var states, kept []api.Sys
	works := []struct{ op, r0 int }{{api.OAlloc, 0}, {api.OAlloc, 0}, {api.OAlloc, 0}, {api.ODrop, 2}, {api.ODrop, 1}, {api.OAlloc, 0}}
	for _, w := range works {
		s = core.Call(s, 0, w.op, w.r0)
		for len(s.C[0].F) > 0 && len(states) < 500 {
			s = roomy(s)
			states, kept = append(states, s), append(kept, clone(s))
			s = alloc.Step(s, 0)
		}
	}
	if len(states) < 40 || !slices.Equal(s.C[0].Ret, []int{4}) || s.M.Bad {
		t.Errorf("%d states, Ret %v", len(states), s.C[0].Ret)
	}
	for i := range states {
		if !same(states[i], kept[i]) || !marked(states[i]) {
			t.Errorf("state %d: written into", i)
		}
	}
}

// TestTwoFromOne: R3, two that go on from one state, by two cores, don't see each other.
func TestTwoFromOne(t *testing.T) {
	s := roomy(emptied(t, 2, 3, []int{1}, []int{2}))
	a, _ := run(t, s, 0, api.OAlloc)
	b, _ := run(t, s, 1, api.OAlloc)
	c, _ := run(t, s, 1, api.ODrop, 3)
	checkParts(t, a, nil, []int{1, 3}, []int{2})
	checkParts(t, b, nil, []int{2, 3}, []int{1})
	checkParts(t, c, []int{3}, nil, []int{1, 2})
	checkParts(t, s, nil, []int{3}, []int{1, 2})
	if a.C[0].V != 1 || b.C[1].V != 2 || c.C[1].V != 3 || a.L[0].Core != 0 || b.L[0].Core != 1 || len(c.L) != 0 {
		t.Errorf("%v, %v, %v", a, b, c)
	}
}

// TestPartsKept: R3, Parts doesn't write into the system, and its lists are memory of their own.
func TestPartsKept(t *testing.T) {
	for _, of := range [][]int{{0, 1, 2, 0, 1, 2}, {0, 0, 0}, {1, 1, 1}, {2, 2, 2}, {2, 1, 0}} {
		s := roomy(lay(kinds(of...), 2))
		kept := clone(s)
		lists := [3][]int{}
		lists[0], lists[1], lists[2] = alloc.Parts(s)
		for i := range lists {
			was := [3][]int{slices.Clone(lists[0]), slices.Clone(lists[1]), slices.Clone(lists[2])}
			_ = append(lists[i], 5)
			clear(lists[i])
			for k := range lists {
				if k != i && !slices.Equal(lists[k], was[k]) {
					t.Errorf("%v: lists %d and %d are one", of, i, k)
				}
			}
		}
		if !same(s, kept) || !marked(s) {
			t.Errorf("%v: written into", of)
		}
	}
}

// TestStartKept: R3, a new system is no part of another one.
func TestStartKept(t *testing.T) {
	s := start(t, 2, 3)
	kept := clone(s)
	other := start(t, 2, 3)
	other.M.W[0], other.M.G[1], other.C[0].V = 9, 9, 9
	if !same(s, kept) || !same(start(t, 2, 3), kept) {
		t.Error("kept")
	}
}

// TestTwice: R4, the same arguments, the same answers.
func TestTwice(t *testing.T) {
	for _, s := range tops() {
		a, b, c := alloc.Parts(s)
		checkParts(t, clone(s), a, b, c)
		if !same(alloc.Step(s, 1), alloc.Step(clone(s), 1)) {
			t.Errorf("two answers: %v", s.C[1])
		}
	}
}
