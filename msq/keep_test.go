package msq_test

import (
	"slices"
	"testing"

	"hazel/api"
	"hazel/core"
	"hazel/msq"
)

// roomy is the same system with room behind each list's end, where a mark stands.
func roomy(s api.Sys) api.Sys {
	r := clone(s)
	for id := range r.C {
		c := &r.C[id]
		for i := range c.F {
			c.F[i].S = room(c.F[i].S, 777)
		}
		c.F = room(c.F, api.Frame{Op: 777})
		c.Ret = room(c.Ret, 777)
	}
	r.C = room(r.C, api.Core{V: 777})
	r.L = room(r.L, api.Ev{Core: 777})
	r.M.W = room(r.M.W, 777)
	r.M.G = room(r.M.G, 777)
	return r
}

func room[T any](l []T, mark T) []T { return append(slices.Clip(l), mark)[:len(l)] }

// marked: do all marks of a roomy system stand?
func marked(s api.Sys) bool {
	is := end(s.C).V == 777 && end(s.L).Core == 777 && end(s.M.W) == 777 && end(s.M.G) == 777
	for _, c := range s.C {
		is = is && end(c.F).Op == 777 && end(c.Ret) == 777
		for _, f := range c.F {
			is = is && end(f.S) == 777
		}
	}
	return is
}

// end is what stands behind a list's end.
func end[T any](l []T) T { return l[:len(l)+1][len(l)] }

// spoil writes into all that a system has.
func spoil(s api.Sys) {
	for id := range s.C {
		c := &s.C[id]
		for i := range c.F {
			clear(c.F[i].S)
			c.F[i].Op = -7
		}
		for i := range c.Ret {
			c.Ret[i] = -7
		}
		c.V = -7
	}
	for i := range s.M.W {
		s.M.W[i] = -7
	}
	for i := range s.M.G {
		s.M.G[i] = -7
	}
	clear(s.L)
}

// tops are systems of three cores whose core 1 is at each kind of step: of these ops, of those below, of others, and of none.
func tops() []api.Sys {
	two, five := packed(4, 2, 0), packed(6, 5, 0)
	var all []api.Sys
	for op := 0; op <= api.OFind; op++ {
		for pc := -1; pc <= 12; pc++ {
			for _, e := range []api.Errno{api.OK, api.ErrFull} {
				for _, tail := range []int{two, five} {
					s := over(lay(six(), 3), 1, frame(op, pc, 1, 9, two, tail, five))
					if op == api.OEnq {
						s = over(lay(six(), 3), 1, frame(op, pc, 1, 9, 5, two, 0))
					}
					s.C[1].V, s.C[1].E = 5, e
					s.M.W[34], s.M.W[35], s.M.W[cell(2, 1)] = two, tail, five
					if tail == two {
						s.M.W[cell(2, 1)] = 0
					}
					all = append(all, s)
				}
			}
		}
	}
	return all
}

// TestUntouched: R3, the system, its arena, cores, what they have retired, frames, what these hold in S, and events aren't written into, also where lists have room behind their ends, and what was answered stays as it was behind later calls.
func TestUntouched(t *testing.T) {
	for _, s := range tops() {
		s = roomy(s)
		kept, f := clone(s), s.C[1].F[len(s.C[1].F)-1]
		a := msq.Step(s, 1)
		first := clone(a)
		b := msq.Step(a, 1)
		second := clone(b)
		msq.Step(msq.Step(b, 1), 1)
		msq.Step(s, 0)
		msq.Step(s, 3)
		if !same(s, kept) || !same(a, first) || !same(b, second) {
			t.Errorf("op %d, step %d: written into", f.Op, f.Pc)
		}
		if !marked(s) {
			t.Errorf("op %d, step %d: written behind a list's end", f.Op, f.Pc)
		}
		spoil(a)
		if !same(s, kept) || !same(b, second) {
			t.Errorf("op %d, step %d: shared", f.Op, f.Pc)
		}
	}
}

// TestMakeKept: R3, Make writes neither into the system, nor into what it answered ahead, with an error and without.
func TestMakeKept(t *testing.T) {
	empty := lay(six(), 2)
	empty.M.W[0] = 0
	for i, s := range []api.Sys{start(t, 2, 5), empty} {
		for _, q := range []int{-1, 0, 7, 8} {
			s = roomy(s)
			kept := clone(s)
			a, _ := msq.Make(s, q)
			first := clone(a)
			b, _ := msq.Make(a, 3)
			msq.Make(s, 3)
			if !same(s, kept) || !marked(s) || !same(a, first) {
				t.Errorf("%d: queue %d: written into", i, q)
			}
			second := clone(b)
			spoil(a)
			if !same(s, kept) || !same(b, second) {
				t.Errorf("%d: queue %d: shared", i, q)
			}
		}
	}
}

// TestItemsKept: R3, Items doesn't write into the system, and its list is memory of its own.
func TestItemsKept(t *testing.T) {
	s := made(t, start(t, 1, 5), 1)
	s = roomy(run(t, run(t, s, 0, api.OEnq, 1, 6), 0, api.OEnq, 1, 7))
	kept := clone(s)
	a, _ := msq.Items(s, 1)
	b, _ := msq.Items(s, 1)
	_ = append(a, 5)
	clear(a)
	if !same(s, kept) || !marked(s) || !slices.Equal(b, []int{6, 7}) {
		t.Errorf("%v, %v", b, s)
	}
	checkItems(t, s, 1, 6, 7)
}

// TestUntouchedRun: R3, each state of a run of both ops, with scans, stays as it was behind all that come.
func TestUntouchedRun(t *testing.T) {
	s := made(t, start(t, 2, 4), 1)
	var states, kept []api.Sys
	for i := range 20 {
		op := []int{api.OEnq, api.OEnq, api.ODeq, api.ODeq, api.ODeq}[i%5]
		s = core.Call(s, 0, op, 1, i)
		for len(s.C[0].F) > 0 && len(states) < 900 {
			s = roomy(s)
			states, kept = append(states, s), append(kept, clone(s))
			s = msq.Step(s, 0)
		}
	}
	if len(states) < 300 || s.M.Bad {
		t.Errorf("%d states, Bad %t", len(states), s.M.Bad)
	}
	for i := range states {
		if !same(states[i], kept[i]) || !marked(states[i]) {
			t.Errorf("state %d: written into", i)
		}
	}
}

// TestTwoFromOne: R3, two that go on from one state, by two cores, don't see each other.
func TestTwoFromOne(t *testing.T) {
	s := roomy(run(t, made(t, start(t, 2, 4), 1), 0, api.OEnq, 1, 6))
	a := run(t, s, 0, api.OEnq, 1, 7)
	b := run(t, s, 1, api.ODeq, 1)
	c := run(t, s, 1, api.OEnq, 1, 8)
	checkItems(t, a, 1, 6, 7)
	checkItems(t, b, 1)
	checkItems(t, c, 1, 6, 8)
	checkItems(t, s, 1, 6)
	if a.L[1].V != 7 || b.L[1].V != 6 || c.L[1].V != 8 || len(s.L) != 1 {
		t.Errorf("%v, %v, %v, %v", a.L, b.L, c.L, s.L)
	}
}

// TestTwice: R4, the same arguments, the same answers.
func TestTwice(t *testing.T) {
	for _, s := range tops() {
		if !same(msq.Step(s, 1), msq.Step(clone(s), 1)) {
			t.Errorf("two answers: %v", s.C[1])
		}
		a, d := msq.Make(s, 1)
		b, e := msq.Make(clone(s), 1)
		if d != e || !same(a, b) {
			t.Errorf("two queues: %v, %v", a, b)
		}
	}
}
