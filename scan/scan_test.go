package scan_test

import (
	"math"
	"reflect"
	"slices"
	"testing"

	"hazel/api"
	"hazel/core"
	"hazel/haz"
	"hazel/mem"
	"hazel/scan"
	"hazel/stack"
)

// numbers are n of them, no two the same.
func numbers(n, from int) []int {
	l := []int{}
	for i := range n {
		l = append(l, from+3*i)
	}
	return l
}

// kinds is an arena of n nodes, node by node Free, Live and Retired; all its words are anything but 0.
func kinds(n int) api.Mem {
	m := api.Mem{W: numbers(128+4*n, 7001), G: make([]int, 1+n)}
	for node := 1; node <= n; node++ {
		m.G[node] = (node - 1) % 3
	}
	return m
}

// lay is a system on an arena, with so many cores, each with two frames below, retired nodes and numbers, and with events.
func lay(m api.Mem, cores int) api.Sys {
	s := api.Sys{M: cloneMem(m)}
	for id := range cores {
		c := api.Core{V: 50 + id, E: api.Errno(1 + id), X: [3]int{60 + id, 70 + id, 80 + id}, Ret: numbers(id, 90+id)}
		for i := range 2 {
			c.F = append(c.F, api.Frame{Op: api.OAlloc + i, Pc: 3 + id, R: [8]int{id, i, 2, 3, 4, 5, 6, 7}, S: numbers(i, 100+id)})
		}
		s.C = append(s.C, c)
		s.L = append(s.L, api.Ev{Core: id, Kind: 1 + id, A: 20 + id, B: 30 + id, V: 40 + id})
	}
	return s
}

// clone is the same system in other memory; in it no list is nil, so that such without elements are alike (R3).
func clone(s api.Sys) api.Sys {
	c := api.Sys{M: cloneMem(s.M), C: []api.Core{}, L: append([]api.Ev{}, s.L...)}
	for _, x := range s.C {
		y := api.Core{F: []api.Frame{}, V: x.V, E: x.E, X: x.X, Ret: append([]int{}, x.Ret...)}
		for _, f := range x.F {
			y.F = append(y.F, api.Frame{Op: f.Op, Pc: f.Pc, R: f.R, S: append([]int{}, f.S...)})
		}
		c.C = append(c.C, y)
	}
	return c
}

func cloneMem(m api.Mem) api.Mem {
	return api.Mem{W: append([]int{}, m.W...), G: append([]int{}, m.G...), Bad: m.Bad}
}

// same: are two systems the same, all of it, held against each other without the program?
func same(a, b api.Sys) bool { return reflect.DeepEqual(clone(a), clone(b)) }

// with is the system with something changed.
func with(s api.Sys, do func(s *api.Sys)) api.Sys {
	c := clone(s)
	do(&c)
	return c
}

// over is the system with a frame over those of a core.
func over(s api.Sys, id int, f api.Frame) api.Sys {
	return with(s, func(s *api.Sys) { s.C[id].F = append(s.C[id].F, f) })
}

// top is a core's last frame, to be changed.
func top(s *api.Sys, id int) *api.Frame { return &s.C[id].F[len(s.C[id].F)-1] }

// ends takes a core's last frame away.
func ends(s *api.Sys, id, v int, e api.Errno) {
	s.C[id].F = s.C[id].F[:len(s.C[id].F)-1]
	s.C[id].V, s.C[id].E = v, e
}

// calls lays a frame of an op over a core's others.
func calls(s *api.Sys, id, op int, r ...int) {
	f := api.Frame{Op: op}
	copy(f.R[:], r)
	s.C[id].F = append(s.C[id].F, f)
}

// TestLimit: P6.1, of each number of cores, and of numbers that none have, at which it goes round (R5).
func TestLimit(t *testing.T) {
	for cores, want := range map[int]int{
		1: 4, 2: 7, 3: 10, 4: 13, 5: 16, 6: 19, 7: 22, 8: 25,
		0: 1, 9: 28, -1: -2, 1 << 40: 3<<40 + 1, math.MaxInt: math.MaxInt - 1, math.MinInt: math.MinInt + 1, 1 << 62: -1<<62 + 1,
	} {
		if got := scan.Limit(cores); got != want {
			t.Errorf("Limit(%d) = %d; want %d", cores, got, want)
		}
	}
}

// TestOwn: P6.1, the six ops up to chapter 6's are, and no other number is.
func TestOwn(t *testing.T) {
	for op := -100; op <= 100; op++ {
		if is, want := scan.Own(op), op >= 1 && op <= 6; is != want {
			t.Errorf("Own(%d) = %t", op, is)
		}
	}
	for _, op := range []int{math.MinInt, math.MaxInt, 1<<32 + 5, 1<<32 + 6, -1 << 40} {
		if scan.Own(op) {
			t.Errorf("Own(%d)", op)
		}
	}
}

// TestRetired: P6.1, core by core, in order; whatever the numbers are, and also one that is there twice.
func TestRetired(t *testing.T) {
	for i, c := range []struct {
		ret  [][]int
		want []int
	}{
		{[][]int{nil}, nil},
		{[][]int{nil, {}, nil}, nil},
		{[][]int{{3}}, []int{3}},
		{[][]int{{3, 1, 2}}, []int{3, 1, 2}},
		{[][]int{{9, 1}, {5}, {4, 2, 3}}, []int{9, 1, 5, 4, 2, 3}},
		{[][]int{nil, {7}, nil, {6, 5}, nil}, []int{7, 6, 5}},
		{[][]int{{1, 1}, {1}}, []int{1, 1, 1}},
		{[][]int{{0, -1}, {201, math.MinInt, math.MaxInt}}, []int{0, -1, 201, math.MinInt, math.MaxInt}},
		{[][]int{numbers(200, 1), numbers(200, 2), numbers(199, 3)}, slices.Concat(numbers(200, 1), numbers(200, 2), numbers(199, 3))},
	} {
		s, _ := core.New(len(c.ret), 4)
		for id, ret := range c.ret {
			s.C[id].Ret = ret
		}
		if got := scan.Retired(s); !slices.Equal(got, c.want) {
			t.Errorf("%d: Retired %v; want %v", i, got, c.want)
		}
	}
}

// TestRetiredBeside: P6.1, what nodes are, what slots name, and what frames have seen aren't asked.
func TestRetiredBeside(t *testing.T) {
	s := over(lay(kinds(9), 3), 1, api.Frame{Op: api.OScan, S: []int{91, 92, 95}})
	s.M.W[8], s.M.W[11] = 91, 92
	if got := scan.Retired(s); !slices.Equal(got, []int{91, 92, 95}) {
		t.Errorf("Retired %v", got)
	}
}

// change is a step as it must be: of a top of a core that has retired ret, on an arena, and what it changes.
type change struct {
	name string
	m    api.Mem
	ret  []int
	f    api.Frame
	do   func(s *api.Sys, id int)
}

// frame is one of an op at a step.
func frame(op, pc int, r ...int) api.Frame {
	f := api.Frame{Op: op, Pc: pc}
	copy(f.R[:], r)
	return f
}

// seen is the frame that has seen these.
func seen(f api.Frame, s ...int) api.Frame {
	f.S = s
	return f
}

// bad is a change that is Bad, too.
func bad(do func(s *api.Sys, id int)) func(s *api.Sys, id int) {
	return func(s *api.Sys, id int) {
		do(s, id)
		s.M.Bad = true
	}
}

// told is what a step that ends changes.
func told(v int, e api.Errno) func(s *api.Sys, id int) {
	return func(s *api.Sys, id int) { ends(s, id, v, e) }
}

// retires is what ORetire of a Live node below the limit changes.
func retires(node int) func(s *api.Sys, id int) {
	return func(s *api.Sys, id int) {
		s.C[id].Ret = append(s.C[id].Ret, node)
		s.M.G[node] = api.Retired
		ends(s, id, node, api.OK)
	}
}

// scans is what ORetire of a Live node at the limit, or beyond it, changes.
func scans(node int) func(s *api.Sys, id int) {
	return func(s *api.Sys, id int) {
		s.C[id].Ret = append(s.C[id].Ret, node)
		s.M.G[node] = api.Retired
		top(s, id).Pc = 1
		calls(s, id, api.OScan)
	}
}

// limits are ORetire's step 0, of Rets of all lengths about the limit of so many cores, and about 200; node 5 is Live.
func limits(cores int) []change {
	var all []change
	m := kinds(6)
	for n := range 300 {
		if n > 30 && n < 195 {
			continue
		}
		c := change{"a Ret of this length", m, numbers(n, 1000), frame(api.ORetire, 0, 5, 8, 9), retires(5)}
		if n+1 >= 3*cores+1 {
			c.do = scans(5)
		}
		if n >= 200 {
			c.do = told(0, api.ErrFull)
		}
		all = append(all, c)
	}
	return all
}

// oddNodes are ORetire's step 0, of an R0 that is no node's, or that of one that isn't Live: it is in Ret all the same.
func oddNodes(cores int) []change {
	var all []change
	m := kinds(6)
	limit := 3*cores + 1
	for _, r0 := range []int{1, 4, 3, 6, 0, -1, 7, 8, 201, 1 << 20, 1<<32 + 5, 1 << 61, -1 << 61, math.MaxInt, math.MinInt} {
		all = append(all,
			change{"no Live node", m, []int{2}, frame(api.ORetire, 0, r0), bad(func(s *api.Sys, id int) {
				s.C[id].Ret = []int{2, r0}
				ends(s, id, r0, api.OK)
			})},
			change{"no Live node, at the limit", m, numbers(limit-1, 40), frame(api.ORetire, 0, r0), bad(func(s *api.Sys, id int) {
				s.C[id].Ret = append(s.C[id].Ret, r0)
				top(s, id).Pc = 1
				calls(s, id, api.OScan)
			})},
			change{"no Live node, and full", m, numbers(200, 40), frame(api.ORetire, 0, r0), told(0, api.ErrFull)})
	}
	return append(all,
		change{"of a Live node that is in Ret already", m, []int{5, 2}, frame(api.ORetire, 0, 5), retires(5)},
		change{"of the last node", kinds(200), []int{4}, frame(api.ORetire, 0, 200), retires(200)},
		change{"of the only node", api.Mem{W: make([]int, 132), G: []int{0, 1}}, nil, frame(api.ORetire, 0, 1), retires(1)})
}

// retireEnds are ORetire's step 1: whatever Ret has, and whatever the node is.
func retireEnds(cores int) []change {
	var all []change
	for _, r0 := range []int{5, 1, 3, 0, -1, 7, 1 << 61, math.MaxInt, math.MinInt} {
		for _, n := range []int{0, 1, 3*cores + 1, 199, 200, 201} {
			all = append(all, change{"the end", kinds(6), numbers(n, 40), frame(api.ORetire, 1, r0, 8, 9), told(r0, api.OK)})
		}
	}
	return all
}

// looks is what a look at a slot changes.
func looks(r0, pc int, s ...int) func(s *api.Sys, id int) {
	return func(sys *api.Sys, id int) { top(sys, id).R[0], top(sys, id).Pc, top(sys, id).S = r0, pc, s }
}

// slots are OScan's step 0, at each slot of so many cores, and at what is behind the last one: 0 there, and not; of each length of S.
func slots(cores int) []change {
	var all []change
	for r0 := range 24 {
		pc := 0
		if r0+1 >= 3*cores {
			pc = 1
		}
		for _, w := range []int{0, 3, 200, -1, 1 << 61, math.MinInt} {
			m := kinds(4)
			m.W[8+r0] = w
			for _, n := range []int{0, 1, 22, 23, 24, 25} {
				s := numbers(n, 500)
				if n < 24 && w != 0 {
					s = append(s, w)
				}
				all = append(all, change{"a slot", m, []int{3, 4}, seen(frame(api.OScan, 0, r0, 2), numbers(n, 500)...), looks(r0+1, pc, s...)})
			}
		}
	}
	m := kinds(4)
	m.W[8] = 3
	return append(all, change{"what is in S already", m, []int{3}, seen(frame(api.OScan, 0), 3), looks(1, 0, 3, 3)})
}

// oddSlots are OScan's step 0 with an R0 that is no slot's of so many cores: at a root, at a node's cell (1 and 4 are Free), and at no place.
func oddSlots(cores int) []change {
	var all []change
	m := kinds(4)
	for r0 := -20; r0 < 150; r0++ {
		place, pc := 8+r0, 0
		if r0+1 >= 3*cores {
			pc = 1
		}
		do := looks(r0+1, pc, 9, 7001+3*place)
		if node := (place - 124) / 4; place >= 128 && place%4 != 0 && (node == 1 || node == 4) {
			do = bad(do)
		}
		if place < 0 || place >= 144 {
			do = bad(looks(r0+1, pc, 9))
		}
		all = append(all, change{"an R0 beside the slots", m, []int{3}, seen(frame(api.OScan, 0, r0), 9), do})
	}
	for _, r0 := range []int{1 << 20, 1 << 40, 1 << 61, 1 << 62, math.MaxInt - 8, math.MaxInt - 1} {
		all = append(all, change{"a far R0", m, nil, seen(frame(api.OScan, 0, r0), 9), bad(looks(r0+1, 1, 9))})
	}
	for _, r0 := range []int{-1 << 20, -1 << 61, math.MinInt, math.MinInt + 1} {
		all = append(all, change{"an R0 far below", m, nil, seen(frame(api.OScan, 0, r0), 9), bad(looks(r0+1, 0, 9))})
	}
	return append(all, change{"an R0 that goes round", m, nil, seen(frame(api.OScan, 0, math.MaxInt), 9), bad(looks(math.MinInt, 0, 9))})
}

// takes is what OScan changes where it takes out the node at a place, with what Ret has then.
func takes(r1, node int, ret ...int) func(s *api.Sys, id int) {
	return func(s *api.Sys, id int) {
		s.C[id].Ret = ret
		top(s, id).R[1] = r1
		calls(s, id, api.OPush, node)
	}
}

// sweeps are OScan's step 1.
func sweeps(int) []change {
	m := kinds(6)
	at := func(r1 int, s ...int) api.Frame { return seen(frame(api.OScan, 1, 77, r1, 9), s...) }
	all := []change{
		{"the first one", m, []int{3, 6, 2}, at(0), takes(0, 3, 6, 2)},
		{"the first one, of one", m, []int{3}, at(0), takes(0, 3)},
		{"one that isn't first", m, []int{3, 6, 2}, at(0, 3), takes(1, 6, 3, 2)},
		{"the last one", m, []int{3, 6, 2}, at(0, 6, 3), takes(2, 2, 3, 6)},
		{"an R1 at the last place", m, []int{3, 6, 2}, at(2), takes(2, 2, 3, 6)},
		{"an R1 ahead of one that is seen", m, []int{3, 6, 2, 5}, at(1, 6), takes(2, 2, 3, 6, 5)},
		{"what is ahead of R1 isn't asked", m, []int{3, 6, 2, 5}, at(2, 2), takes(3, 5, 3, 6, 2)},
		{"several seen, one of them twice", m, []int{1, 2, 3, 4, 5, 6}, at(0, 4, 1, 2, 1, 3, 9), takes(4, 5, 1, 2, 3, 4, 6)},
		{"twice in Ret: the first one", m, []int{3, 6, 3}, at(0), takes(0, 3, 6, 3)},
		{"twice in Ret, behind R1", m, []int{3, 6, 3}, at(1, 6), takes(2, 3, 3, 6)},
		{"twice in Ret, seen", m, []int{3, 6, 3}, at(0, 3), takes(1, 6, 3, 3)},
		{"twice in Ret, all seen", m, []int{3, 3}, at(0, 3), told(2, api.OK)},
		{"nothing in Ret", m, nil, at(0), told(0, api.OK)},
		{"nothing in Ret, but seen", m, nil, at(0, 1, 2), told(0, api.OK)},
		{"all seen", m, []int{3, 6, 2}, at(0, 2, 3, 6), told(3, api.OK)},
		{"all from R1 on seen", m, []int{3, 6, 2}, at(1, 2, 6), told(3, api.OK)},
		{"a node that isn't Retired", m, []int{1, 2}, at(0, 2), takes(0, 1, 2)},
		{"a seen 0", m, []int{0, 3}, at(0, 0), takes(1, 3, 0)},
		{"24 seen, none of it", m, []int{3, 6}, at(0, numbers(24, 40)...), takes(0, 3, 6)},
		{"24 seen, by the last one", m, []int{3, 6}, at(0, append(numbers(23, 40), 3)...), takes(1, 6, 3)},
		{"the last of 200", m, numbers(200, 40), at(199), takes(199, 40+3*199, numbers(199, 40)...)},
		{"the first of 200", m, numbers(200, 40), at(0), takes(0, 40, numbers(199, 43)...)},
		{"the first of more", m, numbers(230, 40), at(0), takes(0, 40, numbers(229, 43)...)},
	}
	for _, r1 := range []int{3, 4, 200, 1 << 40, 1 << 61, math.MaxInt, -1, -2, -3, -1 << 61, math.MinInt} {
		all = append(all, change{"an R1 behind Ret, or below 0", m, []int{3, 6, 2}, at(r1), told(3, api.OK)})
	}
	for _, no := range []int{0, -1, 7, 201, 1 << 20, math.MaxInt, math.MinInt} {
		all = append(all,
			change{"a number that is no node's", m, []int{3, no, 6}, at(0, 3), takes(1, no, 3, 6)},
			change{"a number that is no node's, seen", m, []int{no, 6}, at(0, no), takes(1, 6, no)})
	}
	return all
}

// laid is a system of so many cores with a change's step ahead at one of them.
func laid(c change, cores, id int) api.Sys {
	f := c.f
	for r := 3; r < 8; r++ {
		f.R[r] = -40 - r
	}
	s := over(lay(c.m, cores), id, f)
	s.C[id].Ret = append([]int{}, c.ret...)
	return s
}

// checkChanges does each of the steps at a system's first, middle and last core, with the arena Bad already, and not.
func checkChanges(t *testing.T, of func(cores int) []change) {
	t.Helper()
	for _, cores := range []int{1, 2, 3, 8} {
		for _, c := range of(cores) {
			for _, id := range slices.Compact([]int{0, cores / 2, cores - 1}) {
				for _, bad := range []bool{false, true} {
					s := laid(c, cores, id)
					s.M.Bad = bad
					want := with(s, func(s *api.Sys) { c.do(s, id) })
					if got := scan.Step(s, id); !same(got, want) {
						t.Errorf("%s: core %d of %d, %v, Ret %v: Bad %t, G %v, core %v; want %t, %v, %v",
							c.name, id, cores, c.f, c.ret, got.M.Bad, got.M.G, got.C[id], want.M.Bad, want.M.G, want.C[id])
					}
				}
			}
		}
	}
}

// TestRetireLimit: P6.2, a Ret that comes to less than the limit, to it, and beyond, and one of 199, of 200, and of more.
func TestRetireLimit(t *testing.T) { checkChanges(t, limits) }

// TestRetireOdd: P6.2, an R0 of ORetire that is no node's, or one's that isn't Live.
func TestRetireOdd(t *testing.T) { checkChanges(t, oddNodes) }

// TestRetireEnd: P6.2, ORetire's step 1.
func TestRetireEnd(t *testing.T) { checkChanges(t, retireEnds) }

// TestLook: P6.2, OScan's look at each slot.
func TestLook(t *testing.T) { checkChanges(t, slots) }

// TestLookOdd: P6.2, an R0 of OScan that is no slot's.
func TestLookOdd(t *testing.T) { checkChanges(t, oddSlots) }

// TestSweep: P6.2, OScan's step 1.
func TestSweep(t *testing.T) { checkChanges(t, sweeps) }

// deep is a system of two cores whose core 1 has so many frames, the last one f, and has retired ret; node by node all are Live, but those in ret.
func deep(frames int, f api.Frame, ret ...int) api.Sys {
	s, _ := core.New(2, 12)
	s.M = stack.Fill(s.M)
	s.M.W[0] = 0
	for node := 1; node <= 12; node++ {
		s.M.G[node] = api.Live
	}
	for _, node := range ret {
		s.M.G[node] = api.Retired
	}
	s.C[1].Ret = ret
	s.C[1].F = make([]api.Frame, frames-1)
	return over(s, 1, f)
}

// TestRetireDeep: P6.2, where a core has 40 frames OScan isn't called, and the next step ends; one frame less, and it is.
func TestRetireDeep(t *testing.T) {
	for _, frames := range []int{1, 2, 39, 40} {
		s := deep(frames, frame(api.ORetire, 0, 9), 1, 2, 3, 4, 5, 6)
		want := with(s, func(s *api.Sys) {
			s.C[1].Ret = append(s.C[1].Ret, 9)
			s.M.G[9] = api.Retired
			top(s, 1).Pc = 1
			if frames < 40 {
				calls(s, 1, api.OScan)
			}
		})
		got := scan.Step(s, 1)
		if !same(got, want) {
			t.Errorf("%d frames: %v; want %v", frames, got.C[1], want.C[1])
		}
		if frames < 40 {
			continue
		}
		want = with(got, func(s *api.Sys) { ends(s, 1, 9, api.OK) })
		if got = scan.Step(got, 1); !same(got, want) || len(got.C[1].F) != 39 {
			t.Errorf("the step behind that: %v; want %v", got.C[1], want.C[1])
		}
	}
}

// TestScanDeep: P6.2, where a core has 40 frames OPush isn't called: the node is taken out, and the next step goes on.
func TestScanDeep(t *testing.T) {
	for _, frames := range []int{1, 2, 39, 40} {
		s := deep(frames, seen(frame(api.OScan, 1, 6, 0), 4), 4, 2, 7)
		want := with(s, func(s *api.Sys) {
			s.C[1].Ret = []int{4, 7}
			top(s, 1).R[1] = 1
			if frames < 40 {
				calls(s, 1, api.OPush, 2)
			}
		})
		got := scan.Step(s, 1)
		if !same(got, want) {
			t.Errorf("%d frames: %v; want %v", frames, got.C[1], want.C[1])
		}
		if frames < 40 {
			continue
		}
		got = scan.Step(scan.Step(got, 1), 1)
		want = with(s, func(s *api.Sys) {
			s.C[1].Ret = []int{4}
			ends(s, 1, 1, api.OK)
		})
		if !same(got, want) {
			t.Errorf("the steps behind that: %v; want %v", got.C[1], want.C[1])
		}
	}
}

// unchanged: is a step s?
func unchanged(t *testing.T, name string, s api.Sys, id int) {
	t.Helper()
	if got := scan.Step(s, id); !same(got, s) {
		t.Errorf("%s: core %d: %v", name, id, got.C)
	}
}

// TestStepOtherPc: P6.2, nothing happens, where Pc is none of the steps, also if Ret has 200, or R1 is below 0.
func TestStepOtherPc(t *testing.T) {
	for _, op := range []int{api.ORetire, api.OScan} {
		for _, pc := range []int{2, 3, 5, 6, 100, 1 << 40, math.MaxInt, -1, -2, math.MinInt} {
			for _, n := range []int{0, 3, 200, 201} {
				for _, r1 := range []int{0, -1} {
					for id := range 3 {
						s := over(lay(kinds(6), 3), id, frame(op, pc, 5, r1))
						s.C[id].Ret = numbers(n, 1)
						unchanged(t, "another Pc", s, id)
					}
				}
			}
		}
	}
}

// TestStepOtherOp: P6.2, a top that is another op, also over one of these.
func TestStepOtherOp(t *testing.T) {
	for op := -3; op <= 40; op++ {
		if op >= 1 && op <= 6 {
			continue
		}
		for pc := range 3 {
			for _, below := range []int{api.ORetire, api.OScan, api.OPush} {
				s := over(lay(kinds(6), 2), 0, frame(below, 1, 5))
				s = over(s, 0, frame(op, pc, 5, 1))
				unchanged(t, "another op", s, 0)
			}
		}
	}
}

// TestStepNoCore: P6.2, a core that there isn't.
func TestStepNoCore(t *testing.T) {
	for _, cores := range []int{1, 2, 8} {
		for op := api.OPop; op <= api.OScan; op++ {
			s := lay(kinds(6), cores)
			for id := range cores {
				s = over(s, id, frame(op, 0, 5))
			}
			for _, id := range []int{-1, -2, -cores, cores, cores + 1, 8, 100, math.MaxInt, math.MinInt} {
				if id < 0 || id >= cores {
					unchanged(t, "no core", s, id)
				}
			}
		}
	}
}

// TestStepNoFrame: P6.2, a core without a frame, beside others with theirs.
func TestStepNoFrame(t *testing.T) {
	s, _ := core.New(3, 6)
	s.M = kinds(6)
	s.C[1].Ret = []int{3, 6}
	s = over(over(s, 0, frame(api.ORetire, 0, 5)), 2, frame(api.OScan, 0))
	unchanged(t, "no frame", s, 1)
}

// TestStepBelow: P6.2, steps of chapter 4's and 5's ops are as these tell: each step, whatever is below.
func TestStepBelow(t *testing.T) {
	for op := api.OPop; op <= api.OClear; op++ {
		for pc := -1; pc <= 4; pc++ {
			for _, r := range [][8]int{{}, {2, 1, 4, 4}, {100, 2, 3 << 1, 3 << 1}, {-1, 300, 1 << 61, -1 << 61}} {
				for _, below := range []int{api.ORetire, api.OScan} {
					for id := range 3 {
						s := over(lay(kinds(6), 3), id, frame(below, 1, 5))
						s = over(s, id, api.Frame{Op: op, Pc: pc, R: r, S: []int{4, 5}})
						want := stack.Step(s, id)
						if op == api.OProt || op == api.OClear {
							want = haz.Step(s, id)
						}
						if got := scan.Step(s, id); !same(got, want) {
							t.Errorf("op %d, step %d, %v: %v; want %v", op, pc, r, got.C[id], want.C[id])
						}
					}
				}
			}
		}
	}
}

// finish does a core's steps, as long as it has more frames than so many, and tells how many steps that were.
func finish(t *testing.T, s api.Sys, id, frames int) (api.Sys, int) {
	t.Helper()
	for steps := range 5000 {
		if len(s.C[id].F) <= frames {
			return s, steps
		}
		s = scan.Step(s, id)
	}
	t.Fatalf("core %d doesn't end: %v", id, s.C[id])
	return s, 0
}

// do is an op that a core does alone, to its end.
func do(t *testing.T, s api.Sys, id, op int, args ...int) api.Sys {
	t.Helper()
	s, _ = finish(t, core.Call(s, id, op, args...), id, len(s.C[id].F))
	return s
}

// popped is a system of so many cores and nodes, of which the first ones are popped.
func popped(t *testing.T, cores, nodes, first int) api.Sys {
	t.Helper()
	s, _ := core.New(cores, nodes)
	s.M = stack.Fill(s.M)
	for want := 1; want <= first; want++ {
		if s = do(t, s, 0, api.OPop); s.C[0].V != want || s.C[0].E != api.OK {
			t.Fatalf("popped %d, %d", s.C[0].V, s.C[0].E)
		}
	}
	return s
}

// TestWhole: P6.2, ops of these layers alone, to their ends: below the limit nodes are only retired; at it all but what slots name are free, of each number of cores.
func TestWhole(t *testing.T) {
	for cores := 1; cores <= 8; cores++ {
		limit := 3*cores + 1
		s := popped(t, cores, 30, 28)
		id := cores - 1
		s.M = mem.Store(s.M, haz.Place(0, 2), 2)
		for node := 1; node < limit; node++ {
			s = do(t, s, id, api.ORetire, node)
			if s.C[id].V != node || s.C[id].E != api.OK || s.M.G[node] != api.Retired || len(s.C[id].Ret) != node {
				t.Fatalf("%d cores, node %d: %v", cores, node, s.C[id])
			}
		}
		free, _ := stack.Walk(s.M)
		if !slices.Equal(free, []int{29, 30}) || mem.Count(s.M, api.Retired) != limit-1 || len(scan.Retired(s)) != limit-1 {
			t.Fatalf("%d cores: free %v, retired %v", cores, free, scan.Retired(s))
		}
		s, steps := finish(t, core.Call(s, id, api.ORetire, limit), id, 0)
		free, is := stack.Walk(s.M)
		if !slices.Equal(s.C[id].Ret, []int{2}) || s.C[id].V != limit || s.C[id].E != api.OK || s.M.Bad {
			t.Errorf("%d cores: %v, Bad %t", cores, s.C[id], s.M.Bad)
		}
		if !is || len(free) != limit+1 || free[0] != limit || mem.Count(s.M, api.Free) != limit+1 || s.M.G[2] != api.Retired {
			t.Errorf("%d cores: free %v, %v", cores, free, s.M.G)
		}
		// the first step and the last one of ORetire, a look a slot, four steps a node, and the end of OScan
		if want := 2 + 3*cores + 4*(limit-1) + 1; steps != want {
			t.Errorf("%d cores: %d steps; want %d", cores, steps, want)
		}
		if len(s.L) != 0 {
			t.Errorf("%d cores: events %v", cores, s.L)
		}
	}
}

// TestWholeScan: P6.2, an OScan that is called by itself ends with how many Ret has, of its own core alone.
func TestWholeScan(t *testing.T) {
	s := popped(t, 3, 9, 8)
	for id, nodes := range [][]int{{1, 2}, {3, 4, 5}, {6}} {
		for _, node := range nodes {
			s = do(t, s, id, api.ORetire, node)
		}
	}
	s.M = mem.Store(s.M, haz.Place(0, 0), 5)
	s.M = mem.Store(s.M, haz.Place(1, 1), 3)
	s.M = mem.Store(s.M, haz.Place(2, 2), 3)
	s = do(t, s, 1, api.OScan)
	if s.C[1].V != 2 || s.C[1].E != api.OK || !slices.Equal(scan.Retired(s), []int{1, 2, 3, 5, 6}) || s.M.G[4] != api.Free {
		t.Errorf("%v, retired %v", s.C[1], scan.Retired(s))
	}
	s.M = mem.Store(s.M, haz.Place(1, 1), 0)
	s = do(t, s, 1, api.OScan)
	if s.C[1].V != 2 || !slices.Equal(s.C[1].Ret, []int{3, 5}) {
		t.Errorf("one of two slots is 0: %v", s.C[1])
	}
	s.M = mem.Store(mem.Store(s.M, haz.Place(2, 2), 0), haz.Place(0, 0), 0)
	s = do(t, s, 1, api.OScan)
	if s.C[1].V != 0 || len(s.C[1].Ret) != 0 || !slices.Equal(scan.Retired(s), []int{1, 2, 6}) || s.M.Bad {
		t.Errorf("no slot names any: %v, retired %v", s.C[1], scan.Retired(s))
	}
}

// TestNoSlot: P6.2, slots of no core of the system aren't looked at.
func TestNoSlot(t *testing.T) {
	for cores := 1; cores < 8; cores++ {
		s := popped(t, cores, 3, 2)
		for place := 8 + 3*cores; place < 32; place++ {
			s.M.W[place] = 1
		}
		s = do(t, do(t, s, 0, api.ORetire, 1), 0, api.OScan)
		if len(s.C[0].Ret) != 0 || s.M.G[1] != api.Free {
			t.Errorf("%d cores: %v", cores, s.C[0])
		}
	}
}

// TestLookedOnce: P6.2, a slot that names a node first behind its being looked at doesn't keep it.
func TestLookedOnce(t *testing.T) {
	s := popped(t, 1, 3, 2)
	s = core.Call(do(t, s, 0, api.ORetire, 1), 0, api.OScan)
	s = scan.Step(s, 0)
	s.M.W[8] = 1
	s, _ = finish(t, s, 0, 0)
	free, _ := stack.Walk(s.M)
	if len(s.C[0].Ret) != 0 || !slices.Equal(free, []int{1, 3}) {
		t.Errorf("Ret %v, free %v", s.C[0].Ret, free)
	}
}

// TestTwiceRetired: P6.2, a node that is in Ret twice is pushed twice, which is Bad; so is a number that is no node's.
func TestTwiceRetired(t *testing.T) {
	for _, ret := range [][]int{{1, 1}, {1, 9}, {0}, {-1}, {2}} {
		s := popped(t, 1, 3, 1)
		s.M.G[1] = api.Retired
		s.C[0].Ret = ret
		s = core.Call(s, 0, api.OScan)
		for range 40 {
			s = scan.Step(s, 0)
		}
		if len(s.C[0].F) != 0 || s.C[0].V != 0 || s.C[0].E != api.OK || len(s.C[0].Ret) != 0 || !s.M.Bad {
			t.Errorf("%v: %v, Bad %t", ret, s.C[0], s.M.Bad)
		}
	}
}

// TestEachSlot: P6.3, what a slot named ahead of its being retired stays, whosever slot it is, and whoever scans.
func TestEachSlot(t *testing.T) {
	for cores := 1; cores <= 8; cores++ {
		for place := 8; place < 8+3*cores; place++ {
			for id := range cores {
				s := popped(t, cores, 3, 2)
				s.M = mem.Store(s.M, place, 2)
				s = do(t, do(t, s, id, api.ORetire, 1), id, api.ORetire, 2)
				s = do(t, s, id, api.OScan)
				if !slices.Equal(s.C[id].Ret, []int{2}) || s.M.G[1] != api.Free || s.M.G[2] != api.Retired || s.C[id].V != 1 {
					t.Errorf("%d cores, slot at %d, core %d: %v, %v", cores, place, id, s.C[id], s.M.G)
				}
			}
		}
	}
}

// TestAllNamed: P6.3, each slot names another node: at the limit one is free, and three times as many as there are cores stay.
func TestAllNamed(t *testing.T) {
	for cores := 1; cores <= 8; cores++ {
		for gap := 1; gap <= 3*cores+1; gap++ {
			s := popped(t, cores, 26, 26)
			node := 1
			for place := 8; place < 8+3*cores; place++ {
				if node == gap {
					node++
				}
				s.M = mem.Store(s.M, place, node)
				node++
			}
			for node := 1; node <= 3*cores+1; node++ {
				s = do(t, s, 0, api.ORetire, node)
			}
			free, _ := stack.Walk(s.M)
			if len(s.C[0].Ret) != 3*cores || slices.Contains(s.C[0].Ret, gap) || !slices.Equal(free, []int{gap}) || s.M.Bad {
				t.Errorf("%d cores, %d isn't named: %v, free %v", cores, gap, s.C[0].Ret, free)
			}
		}
	}
}
