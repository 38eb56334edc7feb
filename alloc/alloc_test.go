package alloc_test

import (
	"math"
	"reflect"
	"slices"
	"testing"

	"hazel/alloc"
	"hazel/api"
	"hazel/core"
	"hazel/haz"
	"hazel/mem"
	"hazel/scan"
	"hazel/stack"
)

// far are numbers that no node has, up to the farthest ones.
var far = []int{0, -1, 7, 8, 201, 1 << 20, 1<<32 + 5, 1 << 61, -1 << 61, math.MaxInt, math.MinInt}

// numbers are n of them, no two the same.
func numbers(n, from int) []int {
	l := []int{}
	for i := range n {
		l = append(l, from+3*i)
	}
	return l
}

// kinds is an arena of these nodes' kinds; all its words are anything but 0.
func kinds(of ...int) api.Mem {
	return api.Mem{W: numbers(128+4*len(of), 7001), G: append([]int{0}, of...)}
}

// six is an arena of two nodes of each kind: 1 and 4 are Free, 2 and 5 Live, 3 and 6 Retired.
func six() api.Mem { return kinds(0, 1, 2, 0, 1, 2) }

// lay is a system on an arena, with so many cores, each with a frame below, retired nodes and numbers, and with events.
func lay(m api.Mem, cores int) api.Sys {
	s := api.Sys{M: m}
	for id := range cores {
		below := api.Frame{Op: api.OEnq, Pc: 3 + id, R: [8]int{id, 1, 2, 3, 4, 5, 6, 7}, S: numbers(2, 100+id)}
		s.C = append(s.C, api.Core{F: []api.Frame{below}, V: 50 + id, E: api.Errno(1 + id%6), X: [3]int{60 + id, 70 + id, 80 + id}, Ret: numbers(id, 90+id)})
		s.L = append(s.L, api.Ev{Core: id, Kind: 1 + id, A: 20 + id, B: 30 + id, V: 40 + id})
	}
	return clone(s)
}

// clone is the same system in other memory; in it no list is nil, so that such without elements are alike (R3).
func clone(s api.Sys) api.Sys {
	c := api.Sys{C: []api.Core{}, L: append([]api.Ev{}, s.L...)}
	c.M = api.Mem{W: append([]int{}, s.M.W...), G: append([]int{}, s.M.G...), Bad: s.M.Bad}
	for _, x := range s.C {
		frames := []api.Frame{}
		for _, f := range x.F {
			f.S = append([]int{}, f.S...)
			frames = append(frames, f)
		}
		x.F, x.Ret = frames, append([]int{}, x.Ret...)
		c.C = append(c.C, x)
	}
	return c
}

// same: are two systems the same, all of it, held against each other without the program?
func same(a, b api.Sys) bool { return reflect.DeepEqual(clone(a), clone(b)) }

// with is the system with something changed at a core.
func with(s api.Sys, id int, do func(c *api.Core)) api.Sys {
	s = clone(s)
	do(&s.C[id])
	return s
}

// over is the system with a frame over those of a core.
func over(s api.Sys, id int, f api.Frame) api.Sys {
	return with(s, id, func(c *api.Core) { c.F = append(c.F, f) })
}

// frame is one of an op at a step; its other registers, and S, are anything but 0.
func frame(op, pc int, r ...int) api.Frame {
	f := api.Frame{Op: op, Pc: pc, R: [8]int{-40, -41, -42, -43, -44, -45, -46, -47}, S: []int{9, 5}}
	copy(f.R[:], r)
	return f
}

// change is a step as it must be: of a top of a core that has retired ret, and whose last op told v and e; and what it changes.
type change struct {
	name string
	f    api.Frame
	v    int
	e    api.Errno
	ret  []int
	do   func(c *api.Core)
}

// ends is what a step changes that ends the op.
func ends(v int, e api.Errno) func(c *api.Core) {
	return func(c *api.Core) { c.F, c.V, c.E = c.F[:len(c.F)-1], v, e }
}

// calls is what a step changes that calls an op, and leaves its own one at pc.
func calls(pc, op int, r ...int) func(c *api.Core) {
	return func(c *api.Core) {
		c.F[len(c.F)-1].Pc = pc
		f := api.Frame{Op: op}
		copy(f.R[:], r)
		c.F = append(c.F, f)
	}
}

// states are changes of one frame, whatever the last op told, and whatever Ret has, that do what is said of these.
func states(name string, f api.Frame, do func(v int, e api.Errno, ret []int) func(c *api.Core)) []change {
	var all []change
	for _, e := range []api.Errno{0, 1, 2, 3, 4, 5, 6, 7, 99, -1, math.MaxInt, math.MinInt} {
		for _, v := range append([]int{1, 2, 3}, far...) {
			for _, ret := range [][]int{nil, {}, {3}, {6, 3}, {0}, {-1, 900}, numbers(200, 3)} {
				all = append(all, change{name, f, v, e, ret, do(v, e, ret)})
			}
		}
	}
	return all
}

// allocates are OAlloc's steps.
func allocates() []change {
	return slices.Concat(
		states("0", frame(api.OAlloc, 0), func(int, api.Errno, []int) func(c *api.Core) { return calls(1, api.OPop) }),
		states("1", frame(api.OAlloc, 1), func(v int, e api.Errno, ret []int) func(c *api.Core) {
			if e == api.OK {
				return ends(v, api.OK)
			}
			if len(ret) == 0 {
				return ends(0, api.ErrFull)
			}
			return calls(2, api.OScan)
		}),
		states("2", frame(api.OAlloc, 2), func(int, api.Errno, []int) func(c *api.Core) { return calls(3, api.OPop) }),
		states("3", frame(api.OAlloc, 3), func(v int, e api.Errno, ret []int) func(c *api.Core) { return ends(v, e) }))
}

// drops are ODrop's steps, of each node, whatever it is, and of numbers that are no node's.
func drops() []change {
	var all []change
	for _, r0 := range append([]int{1, 2, 3, 4, 5, 6}, far...) {
		for _, e := range []api.Errno{api.OK, api.ErrFull, api.ErrBlock} {
			for _, ret := range [][]int{nil, {3, 6}, numbers(200, 3)} {
				all = append(all,
					change{"0", frame(api.ODrop, 0, r0), 77, e, ret, calls(1, api.OPush, r0)},
					change{"1", frame(api.ODrop, 1, r0), 77, e, ret, ends(r0, api.OK)})
			}
		}
	}
	return all
}

// laid is a system of so many cores with a change's step ahead at one of them.
func laid(c change, cores, id int) api.Sys {
	return with(lay(six(), cores), id, func(x *api.Core) {
		x.F, x.V, x.E, x.Ret = append(x.F, c.f), c.v, c.e, append([]int{}, c.ret...)
	})
}

// checkChanges does each of the steps at a system's first, middle and last core, with the arena Bad already, and not: nothing beside that core is another one behind it.
func checkChanges(t *testing.T, all []change) {
	t.Helper()
	for _, cores := range []int{1, 2, 3, 8} {
		for _, c := range all {
			for _, id := range slices.Compact([]int{0, cores / 2, cores - 1}) {
				s := laid(c, cores, id)
				s.M.Bad = id%2 == 1
				want := with(s, id, c.do)
				if got := alloc.Step(s, id); !same(got, want) {
					t.Errorf("op %d, step %s, core %d of %d, told %d, %d: %v; want %v", c.f.Op, c.name, id, cores, c.v, c.e, got.C[id], want.C[id])
				}
			}
		}
	}
}

// TestAllocSteps: P7.1, each step of OAlloc: step 1 with each E, and a Ret that is empty, and one that isn't; step 3 with whatever was told.
func TestAllocSteps(t *testing.T) { checkChanges(t, allocates()) }

// TestDropSteps: P7.1, each step of ODrop.
func TestDropSteps(t *testing.T) { checkChanges(t, drops()) }

// TestOwnRet: P7.1, at step 1 only what the core itself has retired counts: what others have, what frames have seen and which nodes are Retired doesn't.
func TestOwnRet(t *testing.T) {
	for id := range 3 {
		s := lay(six(), 3)
		for other := range s.C {
			s.C[other].Ret = []int{3, 6}
		}
		s.C[id].Ret, s.C[id].E = nil, api.ErrFull
		s = over(s, id, frame(api.OAlloc, 1))
		if want := with(s, id, ends(0, api.ErrFull)); !same(alloc.Step(s, id), want) {
			t.Errorf("core %d: %v", id, alloc.Step(s, id).C[id])
		}
		s.C[id].Ret, s.C[(id+1)%3].Ret, s.C[(id+2)%3].Ret = []int{2}, nil, nil
		if want := with(s, id, calls(2, api.OScan)); !same(alloc.Step(s, id), want) {
			t.Errorf("core %d: %v", id, alloc.Step(s, id).C[id])
		}
	}
}

// TestDeep: P7.1, where a core has 40 frames nothing is called, and the op goes on at its next step; one frame less, and it is.
func TestDeep(t *testing.T) {
	for _, frames := range []int{1, 2, 39, 40} {
		for _, c := range []struct {
			pc, to, op int
			f          api.Frame
		}{
			{0, 1, api.OPop, frame(api.OAlloc, 0)},
			{1, 2, api.OScan, frame(api.OAlloc, 1)},
			{2, 3, api.OPop, frame(api.OAlloc, 2)},
			{0, 1, api.OPush, frame(api.ODrop, 0, 5)},
		} {
			s := lay(six(), 2)
			s.C[1].F, s.C[1].Ret = make([]api.Frame, frames-1), []int{3}
			s = over(s, 1, c.f)
			want := with(s, 1, func(x *api.Core) { x.F[frames-1].Pc = c.to })
			if frames < 40 && c.op == api.OPush {
				want = with(s, 1, calls(c.to, c.op, 5))
			} else if frames < 40 {
				want = with(s, 1, calls(c.to, c.op))
			}
			if got := alloc.Step(s, 1); !same(got, want) {
				t.Errorf("%d frames, op %d, step %d: %v; want %v", frames, c.f.Op, c.pc, got.C[1], want.C[1])
			}
		}
	}
}

// TestDeepWhole: P7.1, at 40 frames an op goes on without what it can't call: OAlloc by what was told ahead of it, ODrop with a node that stays Live.
func TestDeepWhole(t *testing.T) {
	for _, c := range []struct {
		f     api.Frame
		v     int
		e     api.Errno
		ret   []int
		steps int
		want  func(c *api.Core)
	}{
		{frame(api.OAlloc, 0), 8, api.OK, []int{3}, 2, ends(8, api.OK)},
		{frame(api.OAlloc, 0), 8, api.ErrNone, nil, 2, ends(0, api.ErrFull)},
		{frame(api.OAlloc, 0), 8, api.ErrNone, []int{3}, 4, ends(8, api.ErrNone)},
		{frame(api.ODrop, 0, 5), 8, api.ErrNone, []int{3}, 2, ends(5, api.OK)},
	} {
		s := with(lay(six(), 2), 1, func(x *api.Core) {
			x.F, x.V, x.E, x.Ret = append(make([]api.Frame, 39), c.f), c.v, c.e, c.ret
		})
		want, steps := with(s, 1, c.want), 0
		for steps < 9 && len(s.C[1].F) == 40 {
			s = alloc.Step(s, 1)
			steps++
		}
		if steps != c.steps || !same(s, want) {
			t.Errorf("op %d, told %d: %d steps, %v; want %v", c.f.Op, c.e, steps, s.C[1], want.C[1])
		}
	}
}

// TestOwn: P7.1, the eight ops up to chapter 7's are, and no other number is.
func TestOwn(t *testing.T) {
	for op := -100; op <= 100; op++ {
		if is, want := alloc.Own(op), op >= 1 && op <= 8; is != want {
			t.Errorf("Own(%d) = %t", op, is)
		}
	}
	for _, op := range []int{math.MinInt, math.MaxInt, 1<<32 + 7, 1<<32 + 8, -1 << 40, 1 << 61} {
		if alloc.Own(op) {
			t.Errorf("Own(%d)", op)
		}
	}
}

// unchanged: is a step s?
func unchanged(t *testing.T, name string, s api.Sys, id int) {
	t.Helper()
	if got := alloc.Step(s, id); !same(got, s) {
		t.Errorf("%s: core %d: %v", name, id, got.C)
	}
}

// TestOtherPc: P7.1, nothing happens, where Pc is none of the op's steps, whatever was told, and whatever Ret has.
func TestOtherPc(t *testing.T) {
	for _, pc := range []int{-3, -2, -1, 2, 3, 4, 5, 100, 1 << 32, 1<<32 + 1, 1 << 61, math.MaxInt, math.MinInt} {
		for _, op := range []int{api.OAlloc, api.ODrop} {
			if op == api.OAlloc && (pc == 2 || pc == 3) {
				continue
			}
			for _, e := range []api.Errno{api.OK, api.ErrFull} {
				for _, ret := range [][]int{nil, {3}} {
					unchanged(t, "another Pc", laid(change{f: frame(op, pc, 5), v: 5, e: e, ret: ret}, 3, 1), 1)
				}
			}
		}
	}
}

// TestOtherOp: P7.1, a top that is another op, also over one of these.
func TestOtherOp(t *testing.T) {
	for op := -3; op <= 40; op++ {
		if op >= 1 && op <= 8 {
			continue
		}
		for pc := range 4 {
			for _, below := range []int{api.OAlloc, api.ODrop} {
				s := over(lay(six(), 2), 0, frame(below, 1, 5))
				unchanged(t, "another op", over(s, 0, frame(op, pc, 5)), 0)
			}
		}
	}
}

// TestNoCore: P7.1, a core that there isn't.
func TestNoCore(t *testing.T) {
	for _, cores := range []int{1, 2, 8} {
		for op := api.OPop; op <= api.ODrop; op++ {
			s := lay(six(), cores)
			for id := range cores {
				s = over(s, id, frame(op, 0, 5))
			}
			for _, id := range []int{-1, -2, -cores, cores, cores + 1, 8, 100, 1 << 32, math.MaxInt, math.MinInt} {
				unchanged(t, "no core", s, id)
			}
		}
	}
}

// TestNoFrame: P7.1, a core without a frame, beside others with theirs.
func TestNoFrame(t *testing.T) {
	for _, e := range []api.Errno{api.OK, api.ErrFull} {
		s := lay(six(), 3)
		s.C[1] = api.Core{V: 5, E: e, Ret: []int{3, 6}}
		s = over(over(s, 0, frame(api.OAlloc, 0)), 2, frame(api.ODrop, 0, 5))
		unchanged(t, "no frame", s, 1)
	}
}

// TestBelow: P7.1, steps of chapter 4's, 5's and 6's ops are as these tell: each step, whatever is below.
func TestBelow(t *testing.T) {
	for op := api.OPop; op <= api.OScan; op++ {
		for pc := -1; pc <= 4; pc++ {
			for _, r := range [][]int{{0, 0}, {2, 1, 4, 4}, {5, 0}, {3, 2, 3 << 1, 3 << 1}, {-1, 300, 1 << 61, -1 << 61}} {
				for _, below := range []int{api.OAlloc, api.ODrop} {
					for id := range 3 {
						s := over(over(lay(six(), 3), id, frame(below, 1, 5)), id, frame(op, pc, r...))
						if got, want := alloc.Step(s, id), scan.Step(s, id); !same(got, want) {
							t.Errorf("op %d, step %d, %v: %v; want %v", op, pc, r, got.C[id], want.C[id])
						}
					}
				}
			}
		}
	}
}

// run does an op of a core alone to its end, and tells how many steps that were.
func run(t *testing.T, s api.Sys, id, op int, args ...int) (api.Sys, int) {
	t.Helper()
	frames := len(s.C[id].F)
	s = core.Call(s, id, op, args...)
	for steps := range 5000 {
		if len(s.C[id].F) <= frames {
			return s, steps
		}
		s = alloc.Step(s, id)
	}
	t.Fatalf("core %d doesn't end: %v", id, s.C[id])
	return s, 0
}

// ran checks what an op of a core alone tells, in how many steps, and goes on behind it.
func ran(t *testing.T, s api.Sys, id, op int, args []int, v int, e api.Errno, steps int) api.Sys {
	t.Helper()
	after, did := run(t, s, id, op, args...)
	if c := after.C[id]; c.V != v || c.E != e || did != steps {
		t.Fatalf("core %d, op %d of %v: %d, %d in %d steps; want %d, %d in %d", id, op, args, c.V, c.E, did, v, e, steps)
	}
	return after
}

// start is a new system, of counts that there may be.
func start(t *testing.T, cores, nodes int) api.Sys {
	t.Helper()
	s, e := alloc.Start(cores, nodes)
	if e != api.OK {
		t.Fatalf("Start(%d, %d): %d", cores, nodes, e)
	}
	return s
}

// checkParts checks all three.
func checkParts(t *testing.T, s api.Sys, free, live, retired []int) {
	t.Helper()
	f, l, r := alloc.Parts(s)
	if !slices.Equal(f, free) || !slices.Equal(l, live) || !slices.Equal(r, retired) {
		t.Errorf("parts %v, %v, %v; want %v, %v, %v", f, l, r, free, live, retired)
	}
}

// TestTwoNodes: P7.1, of two nodes the third one is ErrFull, and one that is dropped is the next one.
func TestTwoNodes(t *testing.T) {
	s := start(t, 1, 2)
	s = ran(t, s, 0, api.OAlloc, nil, 1, api.OK, 5)
	s = ran(t, s, 0, api.OAlloc, nil, 2, api.OK, 5)
	s = ran(t, s, 0, api.OAlloc, nil, 0, api.ErrFull, 3)
	if !slices.Equal(s.L, []api.Ev{{Core: 0, Kind: api.ENoMem}}) {
		t.Errorf("events %v", s.L)
	}
	checkParts(t, s, nil, []int{1, 2}, nil)
	s = ran(t, s, 0, api.ODrop, []int{2}, 2, api.OK, 5)
	checkParts(t, s, []int{2}, []int{1}, nil)
	s = ran(t, s, 0, api.ODrop, []int{1}, 1, api.OK, 5)
	checkParts(t, s, []int{1, 2}, nil, nil)
	s = ran(t, s, 0, api.OAlloc, nil, 1, api.OK, 5)
	s = ran(t, s, 0, api.OAlloc, nil, 2, api.OK, 5)
	s = ran(t, s, 0, api.OAlloc, nil, 0, api.ErrFull, 3)
	if s.M.Bad || len(s.L) != 2 {
		t.Errorf("Bad %t, events %v", s.M.Bad, s.L)
	}
}

// TestAllNodes: P7.1, as many as there are, from the first one on, of the least and the greatest counts.
func TestAllNodes(t *testing.T) {
	for _, nodes := range []int{1, 2, 3, 199, 200} {
		for _, cores := range []int{1, 8} {
			s := start(t, cores, nodes)
			for node := 1; node <= nodes; node++ {
				s = ran(t, s, node%cores, api.OAlloc, nil, node, api.OK, 5)
			}
			s = ran(t, s, nodes%cores, api.OAlloc, nil, 0, api.ErrFull, 3)
			if free, live, retired := alloc.Parts(s); len(free) != 0 || len(live) != nodes || len(retired) != 0 || s.M.Bad {
				t.Errorf("%v, %v, %v, Bad %t", free, live, retired, s.M.Bad)
			}
		}
	}
}

// emptied is a system of so many cores whose nodes are all Live, but those that cores have retired, core by core.
func emptied(t *testing.T, cores, nodes int, ret ...[]int) api.Sys {
	t.Helper()
	s := start(t, cores, nodes)
	for range nodes {
		s, _ = run(t, s, 0, api.OAlloc)
	}
	for id, l := range ret {
		for _, node := range l {
			s, _ = run(t, s, id, api.ORetire, node)
		}
	}
	return s
}

// TestScanFor: P7.1, where no node is free a core's own retired ones are scanned, of each number of cores: it ends with the last one that was freed, or with ErrFull if slots name them all.
func TestScanFor(t *testing.T) {
	for cores := 1; cores <= 8; cores++ {
		id := cores - 1
		ret := make([][]int, cores)
		ret[id] = []int{2, 4}
		s := emptied(t, cores, 4, ret...)
		// a look at nothing and what it told; the scan; the pop behind it and the end
		free := ran(t, s, id, api.OAlloc, nil, 4, api.OK, 1+1+1+3*cores+4*2+1+1+3+1)
		checkParts(t, free, []int{2}, []int{1, 3, 4}, nil)
		s.M = mem.Store(s.M, haz.Place(0, 2), 4)
		one := ran(t, s, id, api.OAlloc, nil, 2, api.OK, 1+1+1+3*cores+4+1+1+3+1)
		checkParts(t, one, nil, []int{1, 2, 3}, []int{4})
		s.M = mem.Store(s.M, haz.Place(id, 0), 2)
		none := ran(t, s, id, api.OAlloc, nil, 0, api.ErrFull, 1+1+1+3*cores+1+1+1+1)
		checkParts(t, none, nil, []int{1, 3}, []int{2, 4})
		told := api.Ev{Core: id, Kind: api.ENoMem}
		if !slices.Equal(free.L, []api.Ev{told}) || !slices.Equal(one.L, []api.Ev{told}) || !slices.Equal(none.L, []api.Ev{told, told}) {
			t.Errorf("%d cores: events %v, %v, %v", cores, free.L, one.L, none.L)
		}
		if free.M.Bad || one.M.Bad || none.M.Bad || !slices.Equal(none.C[id].Ret, []int{2, 4}) {
			t.Errorf("%d cores: Bad, or Ret %v", cores, none.C[id].Ret)
		}
	}
}

// TestOthersRetired: P7.3, what other cores have retired isn't scanned: ErrFull, and nothing is changed but what was told, and the event.
func TestOthersRetired(t *testing.T) {
	s := emptied(t, 3, 5, []int{1}, nil, []int{2, 3})
	want := with(s, 1, func(c *api.Core) { c.V, c.E = 0, api.ErrFull })
	want.L = append(want.L, api.Ev{Core: 1, Kind: api.ENoMem})
	if got := ran(t, s, 1, api.OAlloc, nil, 0, api.ErrFull, 3); !same(got, want) {
		t.Errorf("%v; want %v", got, want)
	}
}

// TestFreedBetween: P7.3, a node that another core drops behind the first look is the one that is told, if the core has retired nodes, though slots name these; ErrFull, if it has none.
func TestFreedBetween(t *testing.T) {
	for _, ret := range [][]int{nil, {3}} {
		s := emptied(t, 2, 3, ret)
		s.M = mem.Store(s.M, haz.Place(1, 1), 3)
		s = core.Call(s, 0, api.OAlloc)
		s = alloc.Step(alloc.Step(s, 0), 0)
		s, _ = run(t, s, 1, api.ODrop, 2)
		for range 40 {
			if len(s.C[0].F) > 0 {
				s = alloc.Step(s, 0)
			}
		}
		v, e := 0, api.ErrFull
		if ret != nil {
			v, e = 2, api.OK
		}
		if len(s.C[0].F) > 0 || s.C[0].V != v || s.C[0].E != e || !slices.Equal(s.C[0].Ret, ret) || s.M.Bad {
			t.Errorf("Ret %v: %v", ret, s.C[0])
		}
	}
}

// TestDropWhat: P7.1, ODrop of a Live node is free behind it; so is one that is Retired; one that is Free is Bad, and so is what is no node. All end with R0 and OK.
func TestDropWhat(t *testing.T) {
	for _, r0 := range append([]int{1, 2, 3, 4, 5, 6}, far...) {
		s := emptied(t, 2, 6, nil, []int{3, 6})
		s, _ = run(t, s, 0, api.ODrop, 4)
		s, _ = run(t, s, 0, api.ODrop, 1)
		live := r0 == 2 || r0 == 5
		retired := r0 == 3 || r0 == 6
		before := slices.Clone(s.M.G)
		s = ran(t, s, 1, api.ODrop, []int{r0}, r0, api.OK, 5)
		if s.M.Bad == (live || retired) || !slices.Equal(s.C[1].Ret, []int{3, 6}) || len(s.L) != 0 {
			t.Errorf("ODrop of %d: Bad %t, %v", r0, s.M.Bad, s.C[1])
		}
		if live || retired {
			before[r0] = api.Free
		}
		if !slices.Equal(s.M.G, before) {
			t.Errorf("ODrop of %d: nodes %v; want %v", r0, s.M.G, before)
		}
		if free, is := stack.Walk(s.M); live && (!is || !slices.Equal(free, []int{r0, 1, 4})) {
			t.Errorf("ODrop of %d: the list is %v", r0, free)
		}
	}
}

// TestParts: P7.2, each arena of up to six nodes, also a Bad one, and greater ones.
func TestParts(t *testing.T) {
	for n := 1; n <= 6; n++ {
		all := 1
		for range n {
			all *= 3
		}
		for i := range all {
			of := make([]int, n)
			for node := range of {
				of[node], i = i%3, i/3
			}
			checkKinds(t, of)
		}
	}
	for _, kind := range []int{api.Free, api.Live, api.Retired} {
		for _, n := range []int{7, 8, 63, 64, 65, 199, 200} {
			of := slices.Repeat([]int{kind}, n)
			checkKinds(t, of)
			of[0], of[n-1] = (kind+1)%3, (kind+2)%3
			checkKinds(t, of)
		}
	}
}

// checkKinds checks the parts of an arena of these nodes.
func checkKinds(t *testing.T, of []int) {
	t.Helper()
	var want [3][]int
	for i, kind := range of {
		want[kind] = append(want[kind], i+1)
	}
	s := lay(kinds(of...), 2)
	checkParts(t, s, want[0], want[1], want[2])
	s.M.Bad = true
	checkParts(t, s, want[0], want[1], want[2])
}

// TestPartsBeside: P7.2, nodes' kinds alone count: not the list of free nodes, what cores have retired, what slots name, nor frames.
func TestPartsBeside(t *testing.T) {
	s := start(t, 2, 6)
	s.M.G = []int{0, 1, 0, 2, 0, 2, 1}
	checkParts(t, s, []int{2, 4}, []int{1, 6}, []int{3, 5})
	for _, head := range []int{0, 1, 5 << 1, 1<<21 + 3<<1, -1, 1 << 61} {
		s.M.W[api.Head] = head
		s.M.W[8], s.M.W[11] = 2, 3
		s.C[0].Ret, s.C[1].Ret = []int{6, 5, 1, 2}, []int{0, 201}
		s = over(s, 1, frame(api.OPush, 2, 4))
		checkParts(t, s, []int{2, 4}, []int{1, 6}, []int{3, 5})
	}
}

// TestPartsRising: P7.2, by their numbers, whatever order they were freed and retired in.
func TestPartsRising(t *testing.T) {
	s := emptied(t, 3, 9, []int{8, 1}, []int{4}, []int{9, 2})
	for _, node := range []int{5, 7, 3} {
		s, _ = run(t, s, 1, api.ODrop, node)
	}
	checkParts(t, s, []int{3, 5, 7}, []int{6}, []int{1, 2, 4, 8, 9})
}

// TestStart: P7.2, of all counts of cores and the edges of those of nodes, and of some that there can't be: a system without anything, all its nodes in the list, or an error and none.
func TestStart(t *testing.T) {
	odd := []int{-1 << 61, math.MinInt, math.MaxInt, 1<<32 + 1, 1 << 61, 256, 257}
	nodes := append([]int{-200, -1, 0, 1, 2, 3, 7, 8, 9, 128, 199, 200, 201, 202, 1000}, odd...)
	for _, cores := range append([]int{-8, -1, 0, 1, 2, 3, 4, 5, 6, 7, 8, 9, 10, 200}, odd...) {
		for _, n := range nodes {
			s, e := alloc.Start(cores, n)
			if cores < 1 || cores > 8 || n < 1 || n > 200 {
				if e != api.ErrArg || !same(s, api.Sys{}) {
					t.Errorf("Start(%d, %d): %v, %d", cores, n, s, e)
				}
				continue
			}
			want := api.Sys{M: api.Mem{W: make([]int, 128+4*n), G: make([]int, 1+n)}, C: make([]api.Core, cores)}
			want.M.W[0] = 2
			for node := 1; node < n; node++ {
				want.M.W[124+4*node] = node + 1
			}
			if e != api.OK || !same(s, want) {
				t.Errorf("Start(%d, %d): %v, %d", cores, n, s, e)
			}
		}
	}
}

// TestStartParts: P7.2, all nodes of a new system are Free.
func TestStartParts(t *testing.T) {
	for _, n := range []int{1, 2, 5, 200} {
		var all []int
		for node := 1; node <= n; node++ {
			all = append(all, node)
		}
		checkParts(t, start(t, 3, n), all, nil, nil)
	}
}
