package work_test

import (
	"slices"
	"testing"

	"hazel/api"
	"hazel/core"
	"hazel/work"
)

// at is a core at a step of an op, over another one.
func at(t *testing.T) work.Work {
	t.Helper()
	s, e := core.New(2, 3)
	if e != api.OK {
		t.Fatal(e)
	}
	s = core.Call(core.Call(s, 1, api.OSend), 1, api.OGet, 40, 41)
	s.C[1].V, s.C[1].E = 8, api.ErrHad
	return work.Of(s, 1)
}

// TestOf: the top of a core, and none where there is none.
func TestOf(t *testing.T) {
	w := at(t)
	if w.Op != api.OGet || w.Pc != 0 || w.R != [8]int{40, 41} || w.Id != 1 {
		t.Errorf("%v", w.Frame)
	}
	if v, e := w.Told(); v != 8 || e != api.ErrHad {
		t.Errorf("%d, %d", v, e)
	}
	for _, id := range []int{-1, 0, 2, 1 << 40} {
		if w := work.Of(w.Sys, id); w.Op != 0 || w.Id != id {
			t.Errorf("core %d: %v", id, w.Frame)
		}
	}
}

// TestGoesOn: where the top goes on, with the registers that were changed, and what is called over it, or what it tells at its end.
func TestGoesOn(t *testing.T) {
	w := at(t)
	w.R[2] = 42
	for pc, s := range map[int]api.Sys{7: w.At(7), 1: w.On(), 2: w.CallTo(2, api.OFind, 5, 6), -1: w.Call(api.OFind, 5, 6)} {
		want := []api.Frame{{Op: api.OSend}, {Op: api.OGet, Pc: pc, R: [8]int{40, 41, 42}}}
		if pc == -1 {
			want[1].Pc = 1
		}
		if pc == 2 || pc == -1 {
			want = append(want, api.Frame{Op: api.OFind, R: [8]int{5, 6}})
		}
		for i, f := range s.C[1].F {
			if len(s.C[1].F) != len(want) || f.Op != want[i].Op || f.Pc != want[i].Pc || f.R != want[i].R {
				t.Errorf("%d: %v, want %v", pc, s.C[1].F, want)
			}
		}
	}
	s := w.End(6, api.ErrFull)
	if c := s.C[1]; len(c.F) != 1 || c.F[0].Op != api.OSend || c.V != 6 || c.E != api.ErrFull {
		t.Errorf("%v", c)
	}
}

// TestDoes: what a step does to the arena and to the events is seen behind it, and not in what it was of.
func TestDoes(t *testing.T) {
	first := at(t)
	w := first.Store(100, 2097159).Load(3, 100).Log(api.EIns, 5, 50)
	_, is := w.Holds(100, 2097159)
	_, isNot := w.Holds(100, 2097158)
	no, was := w.Swap(100, 2097158, 5, 1)
	yes, wasIt := w.Swap(100, 2097159, 5, 1)
	if !is || isNot || was || !wasIt || no.M.W[100] != 2097159 || yes.M.W[100] != 2<<21+5<<1+1 || w.R[3] != 2097159 {
		t.Errorf("%t, %t, %t, %t, %d, %d, %d", is, isNot, was, wasIt, no.M.W[100], yes.M.W[100], w.R[3])
	}
	if !slices.Equal(w.L, []api.Ev{{Core: 1, Kind: api.EIns, A: 5, V: 50}}) || len(first.L) > 0 || first.M.W[100] != 0 || first.R[3] != 0 {
		t.Errorf("%v, %v, %d, %d", w.L, first.L, first.M.W[100], first.R[3])
	}
	bad, is := w.Holds(-1, 0)
	if !is || !bad.M.Bad || !w.Load(3, 400).M.Bad || !w.Store(400, 1).M.Bad || w.M.Bad {
		t.Errorf("%t, %t", is, w.M.Bad)
	}
}
