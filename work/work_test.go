package work_test

import (
	"slices"
	"testing"

	"hazel/api"
	"hazel/core"
	"hazel/mem"
	"hazel/stack"
	"hazel/work"
)

// at is a core at a step of an op, over another one.
func at(t *testing.T) work.Work {
	t.Helper()
	s, e := core.New(2, 3)
	if e != api.OK {
		t.Fatal(e)
	}
	s = core.Call(core.Call(s, 1, api.OSend), 1, api.OGet, 40, 41)
	s.C[1].V, s.C[1].E = 8, api.ErrHad
	return work.Of(s, 1)
}

// TestOf: the top of a core, and none where there is none.
func TestOf(t *testing.T) {
	w := at(t)
	if w.Op != api.OGet || w.Pc != 0 || w.R != [8]int{40, 41} || w.Id != 1 {
		t.Errorf("%v", w.Frame)
	}
	if v, e := w.Told(); v != 8 || e != api.ErrHad {
		t.Errorf("%d, %d", v, e)
	}
	for _, id := range []int{-1, 0, 2, 1 << 40} {
		if w := work.Of(w.Sys, id); w.Op != 0 || w.Id != id {
			t.Errorf("core %d: %v", id, w.Frame)
		}
	}
}

// TestGoesOn: where the top goes on, with the registers that were changed, and what is called over it, or what it tells at its end.
func TestGoesOn(t *testing.T) {
	w := at(t)
	w.R[2] = 42
	for pc, s := range map[int]api.Sys{7: w.At(7), 1: w.On(), 2: w.CallTo(2, api.OFind, 5, 6), -1: w.Call(api.OFind, 5, 6)} {
		want := []api.Frame{{Op: api.OSend}, {Op: api.OGet, Pc: pc, R: [8]int{40, 41, 42}}}
		if pc == -1 {
			want[1].Pc = 1
		}
		if pc == 2 || pc == -1 {
			want = append(want, api.Frame{Op: api.OFind, R: [8]int{5, 6}})
		}
		for i, f := range s.C[1].F {
			if len(s.C[1].F) != len(want) || f.Op != want[i].Op || f.Pc != want[i].Pc || f.R != want[i].R {
				t.Errorf("%d: %v, want %v", pc, s.C[1].F, want)
			}
		}
	}
	s := w.End(6, api.ErrFull)
	if c := s.C[1]; len(c.F) != 1 || c.F[0].Op != api.OSend || c.V != 6 || c.E != api.ErrFull {
		t.Errorf("%v", c)
	}
}

// TestDoes: what a step does to the arena and to the events is seen behind it, and not in what it was of.
func TestDoes(t *testing.T) {
	first := at(t)
	w := first.Store(100, 2097159).Load(3, 100).Log(api.EIns, 5, 50)
	_, is := w.Holds(100, 2097159)
	_, isNot := w.Holds(100, 2097158)
	no, was := w.Swap(100, 2097158, 5, 1)
	yes, wasIt := w.Swap(100, 2097159, 5, 1)
	if !is || isNot || was || !wasIt || no.M.W[100] != 2097159 || yes.M.W[100] != 2<<21+5<<1+1 || w.R[3] != 2097159 {
		t.Errorf("%t, %t, %t, %t, %d, %d, %d", is, isNot, was, wasIt, no.M.W[100], yes.M.W[100], w.R[3])
	}
	if !slices.Equal(w.L, []api.Ev{{Core: 1, Kind: api.EIns, A: 5, V: 50}}) || len(first.L) > 0 || first.M.W[100] != 0 || first.R[3] != 0 {
		t.Errorf("%v, %v, %d, %d", w.L, first.L, first.M.W[100], first.R[3])
	}
	not, was := w.Cas(100, 2097158, 7)
	to, wasIt := w.Cas(100, 2097159, 7)
	if was || !wasIt || not.M.W[100] != 2097159 || to.M.W[100] != 7 || w.M.W[100] != 2097159 {
		t.Errorf("%t, %t, %d, %d", was, wasIt, not.M.W[100], to.M.W[100])
	}
	bad, is := w.Holds(-1, 0)
	if !is || !bad.M.Bad || !w.Load(3, 400).M.Bad || !w.Store(400, 1).M.Bad || w.M.Bad {
		t.Errorf("%t, %t", is, w.M.Bad)
	}
}

// TestWord: what a place tells, and 0 where there is none; a free node's cell, too. The arena isn't touched.
func TestWord(t *testing.T) {
	m, _ := mem.New(2)
	m.W[100], m.W[130] = 7, 8
	if a, b, c, d := work.Word(m, 100), work.Word(m, 130), work.Word(m, -1), work.Word(m, 136); a != 7 || b != 8 || c != 0 || d != 0 || m.Bad {
		t.Errorf("%d, %d, %d, %d, Bad %t", a, b, c, d, m.Bad)
	}
}

// TestFirst: the first free node is taken, its Next tells none, and the others are left, in order; of an empty list, and of one that can't be walked, none is, and the arena is as it was.
func TestFirst(t *testing.T) {
	m, _ := mem.New(3)
	m = stack.Fill(m)
	m.W[129], m.W[133] = 5<<21+3<<1+1, 1<<61-2
	for i, left := range [][]int{{2, 3}, {3}, {}} {
		kept := mem.Store(m, 0, m.W[0])
		after, node, is := work.First(m)
		free, walked := stack.Walk(after)
		if !is || node != i+1 || !walked || !slices.Equal(free, left) || after.G[node] != api.Live || after.Bad || after.W[0]>>21 != i+1 {
			t.Errorf("%d, %t, free %v, %t, nodes %v, head %d", node, is, free, walked, after.G, after.W[0])
		}
		if next := after.W[125+4*node]; next != []int{6 << 21, 0, 1 << 21}[i] || !mem.Same(m, kept) {
			t.Errorf("node %d: Next %d", node, next)
		}
		m = after
	}
	loop := mem.Store(m, 0, 1<<1)
	loop.W[128] = 1
	for _, m := range []api.Mem{m, loop} {
		if after, node, is := work.First(m); is || node != 0 || !mem.Same(after, m) {
			t.Errorf("%d, %t, %v", node, is, after)
		}
	}
}
