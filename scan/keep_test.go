package scan_test

import (
	"slices"
	"testing"

	"hazel/api"
	"hazel/core"
	"hazel/scan"
)

// allChanges are the steps that are told one by one, of so many cores.
func allChanges(cores int) []change {
	return slices.Concat(limits(cores), oddNodes(cores), retireEnds(cores), slots(cores), oddSlots(cores), sweeps(cores))
}

// roomy is the same system with room behind each list's end, where a mark stands.
func roomy(s api.Sys) api.Sys {
	r := clone(s)
	for id := range r.C {
		c := &r.C[id]
		for i := range c.F {
			c.F[i].S = room(c.F[i].S, 777)
		}
		c.F = room(c.F, api.Frame{Op: 777})
		c.Ret = room(c.Ret, 777)
	}
	r.C = room(r.C, api.Core{V: 777})
	r.L = room(r.L, api.Ev{Core: 777})
	r.M.W = room(r.M.W, 777)
	r.M.G = room(r.M.G, 777)
	return r
}

func room[T any](l []T, mark T) []T { return append(slices.Clip(l), mark)[:len(l)] }

// behind is what stands behind a list's end.
func behind[T any](l []T) T { return l[:len(l)+1][len(l)] }

// marked: do all marks of a roomy system stand?
func marked(s api.Sys) bool {
	for _, c := range s.C {
		for _, f := range c.F {
			if behind(f.S) != 777 {
				return false
			}
		}
		if behind(c.F).Op != 777 || behind(c.Ret) != 777 {
			return false
		}
	}
	return behind(s.C).V == 777 && behind(s.L).Core == 777 && behind(s.M.W) == 777 && behind(s.M.G) == 777
}

// TestUntouched: R3, the system, its arena, cores, what they have retired, frames, what these have seen, and events aren't written into, also where lists have room behind their ends, and what was answered stays as it was behind later calls.
func TestUntouched(t *testing.T) {
	for _, c := range allChanges(3) {
		s := roomy(laid(c, 3, 1))
		kept := clone(s)
		a := scan.Step(s, 1)
		first := clone(a)
		b := scan.Step(a, 1)
		second := clone(b)
		scan.Step(scan.Step(b, 1), 1)
		scan.Retired(a)
		if !same(s, kept) || !same(a, first) || !same(b, second) {
			t.Errorf("%s: written into", c.name)
		}
		if !marked(s) {
			t.Errorf("%s: written behind a list's end", c.name)
		}
	}
}

// TestUntouchedRun: R3, each state of a run of all ops stays as it was behind all that come.
func TestUntouchedRun(t *testing.T) {
	s := popped(t, 2, 12, 9)
	s.M.W[9], s.M.W[12] = 2, 5
	var states, kept []api.Sys
	keep := func() {
		s = roomy(s)
		states, kept = append(states, s), append(kept, clone(s))
	}
	for node := 1; node <= 9; node++ {
		s = core.Call(s, 0, api.ORetire, node)
		for keep(); len(s.C[0].F) > 0 && len(states) < 500; keep() {
			s = scan.Step(s, 0)
		}
	}
	if len(states) < 40 || !slices.Equal(s.C[0].Ret, []int{2, 5, 8, 9}) {
		t.Errorf("%d states, Ret %v", len(states), s.C[0].Ret)
	}
	for i := range states {
		if !same(states[i], kept[i]) || !marked(states[i]) {
			t.Errorf("state %d: written into", i)
		}
	}
}

// TestTwoFromOne: R3, two that go on from one state don't see each other.
func TestTwoFromOne(t *testing.T) {
	s := roomy(popped(t, 2, 9, 4))
	a := scan.Step(core.Call(s, 0, api.ORetire, 1), 0)
	b := scan.Step(core.Call(a, 0, api.ORetire, 2), 0)
	c := scan.Step(core.Call(a, 0, api.ORetire, 3), 0)
	if !slices.Equal(a.C[0].Ret, []int{1}) || !slices.Equal(b.C[0].Ret, []int{1, 2}) || !slices.Equal(c.C[0].Ret, []int{1, 3}) {
		t.Errorf("%v, %v, %v", a.C[0].Ret, b.C[0].Ret, c.C[0].Ret)
	}
	d, e := do(t, b, 0, api.OScan), do(t, c, 0, api.OScan)
	if !slices.Equal(b.C[0].Ret, []int{1, 2}) || !slices.Equal(c.C[0].Ret, []int{1, 3}) || d.M.G[3] != api.Live || e.M.G[2] != api.Live {
		t.Errorf("%v, %v", b.C[0].Ret, c.C[0].Ret)
	}
}

// spoil changes all that an answer holds.
func spoil(s api.Sys) {
	s.M.W[0]++
	s.M.G[1]++
	for i := range s.L {
		s.L[i].A++
	}
	for id := range s.C {
		c := &s.C[id]
		c.V++
		for i := range c.Ret {
			c.Ret[i]++
		}
		for i := range c.F {
			c.F[i].Pc++
			for k := range c.F[i].S {
				c.F[i].S[k]++
			}
		}
	}
}

// TestOwnMemory: R3, what a step answers shares nothing with what it was given, also where it is the same.
func TestOwnMemory(t *testing.T) {
	for _, c := range allChanges(3) {
		s := laid(c, 3, 1)
		kept := clone(s)
		spoil(scan.Step(s, 1))
		if !same(s, kept) {
			t.Errorf("%s: shared", c.name)
		}
	}
	s := lay(kinds(6), 4)
	for id, f := range []api.Frame{frame(api.OPush, 0, 3), frame(api.OProt, 0, 3), frame(api.OEnq, 0, 3), frame(api.OScan, 7, 3)} {
		s = over(s, id, seen(f, 4))
	}
	for id := -1; id <= 4; id++ {
		kept := clone(s)
		spoil(scan.Step(s, id))
		if !same(s, kept) {
			t.Errorf("core %d: shared", id)
		}
	}
}

// TestRetiredOwn: R3, Retired doesn't write into the system, and what it answers is memory of its own.
func TestRetiredOwn(t *testing.T) {
	for _, only := range []bool{false, true} {
		s := lay(kinds(6), 3)
		if only {
			s.C[1].Ret = nil
		}
		s = roomy(s)
		kept := clone(s)
		l := scan.Retired(s)
		want := slices.Clone(l)
		clear(l)
		_ = append(l, 5)
		if !same(s, kept) || !marked(s) || !slices.Equal(scan.Retired(s), want) {
			t.Errorf("written into, or shared: %v", scan.Retired(s))
		}
	}
}

// TestTwice: R4, the same arguments, the same answers.
func TestTwice(t *testing.T) {
	for _, c := range allChanges(2) {
		s := laid(c, 2, 1)
		if !same(scan.Step(s, 1), scan.Step(clone(s), 1)) || !slices.Equal(scan.Retired(s), scan.Retired(clone(s))) {
			t.Errorf("%s: two answers", c.name)
		}
	}
}
