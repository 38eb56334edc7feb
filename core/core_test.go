package core_test

import (
	"math"
	"reflect"
	"slices"
	"testing"

	"hazel/api"
	"hazel/core"
	"hazel/mem"
)

const (
	greatest = 1 << 61
	least    = -1 << 61
)

// farNumbers are one and more beyond those that V, X and registers may be.
func farNumbers() []int {
	return []int{greatest + 1, least - 1, 1 << 62, -1 << 62, math.MaxInt, math.MinInt}
}

// numbers are n of them, no two the same.
func numbers(n, from int) []int {
	l := []int{}
	for i := range n {
		l = append(l, from+3*i)
	}
	return l
}

// frame is written out by hand: no two of its numbers are the same.
func frame(from, seen int) api.Frame {
	f := api.Frame{Op: from, Pc: from + 1, S: numbers(seen, from+100)}
	for i := range f.R {
		f.R[i] = from + 10 + i
	}
	return f
}

// lay is a system written out by hand: so many cores and nodes; the cores have frames, numbers S and retired nodes as told.
func lay(cores, nodes, frames, seen, retired int) api.Sys {
	s := api.Sys{M: api.Mem{W: numbers(128+4*nodes, 7), G: []int{0}, Bad: cores%2 == 0}}
	for i := range nodes {
		s.M.G = append(s.M.G, (i+1)%3)
	}
	for id := range cores {
		c := api.Core{V: 50 + id, E: api.Errno(id), X: [3]int{60 + id, 70 + id, 80 + id}, Ret: numbers(retired, 90+id)}
		for i := range frames {
			c.F = append(c.F, frame(1000*id+20*i, seen))
		}
		s.C = append(s.C, c)
		s.L = append(s.L, api.Ev{Core: id, Kind: 1 + id, A: 20 + id, B: 30 + id, V: 40 + id})
	}
	return s
}

// clone is the same system in other memory.
func clone(s api.Sys) api.Sys {
	c := api.Sys{M: api.Mem{W: slices.Clone(s.M.W), G: slices.Clone(s.M.G), Bad: s.M.Bad}, L: slices.Clone(s.L)}
	for _, x := range s.C {
		y := api.Core{V: x.V, E: x.E, X: x.X, Ret: slices.Clone(x.Ret)}
		for _, f := range x.F {
			y.F = append(y.F, api.Frame{Op: f.Op, Pc: f.Pc, R: f.R, S: slices.Clone(f.S)})
		}
		c.C = append(c.C, y)
	}
	return c
}

// filled is a system in which no list is nil, so that such without elements are alike (R3).
func filled(s api.Sys) api.Sys {
	c := clone(s)
	c.M.W = append([]int{}, c.M.W...)
	c.M.G = append([]int{}, c.M.G...)
	c.L = append([]api.Ev{}, c.L...)
	c.C = append([]api.Core{}, c.C...)
	for id := range c.C {
		x := &c.C[id]
		x.Ret = append([]int{}, x.Ret...)
		x.F = append([]api.Frame{}, x.F...)
		for i := range x.F {
			x.F[i].S = append([]int{}, x.F[i].S...)
		}
	}
	return c
}

// same: are two systems the same, all of it, held against each other without the package?
func same(a, b api.Sys) bool { return reflect.DeepEqual(filled(a), filled(b)) }

func sameFrame(a, b api.Frame) bool {
	return a.Op == b.Op && a.Pc == b.Pc && a.R == b.R && slices.Equal(a.S, b.S)
}

// with is the system with something changed.
func with(s api.Sys, do func(s *api.Sys)) api.Sys {
	c := clone(s)
	do(&c)
	return c
}

// someSystems are right: of 1 to 8 cores, 1 to 200 nodes, with frames, numbers S and retired nodes from none to as many as there may be.
func someSystems() []api.Sys {
	l := []api.Sys{}
	for _, x := range [][5]int{
		{1, 1, 0, 0, 0}, {1, 1, 1, 0, 1}, {1, 200, 40, 24, 200}, {2, 3, 1, 1, 2}, {2, 200, 2, 0, 7},
		{3, 5, 39, 2, 0}, {7, 9, 3, 23, 199}, {8, 1, 0, 0, 200}, {8, 2, 1, 24, 0}, {8, 200, 40, 24, 200},
	} {
		l = append(l, lay(x[0], x[1], x[2], x[3], x[4]))
	}
	uneven := lay(8, 4, 40, 1, 3)
	for id := range uneven.C {
		uneven.C[id].F = uneven.C[id].F[:[]int{0, 1, 40, 39, 0, 2, 1, 0}[id]]
	}
	blank, _ := core.New(4, 10)
	return append(l, uneven, blank)
}

// farSystems are such as their numbers alone keep from being right.
func farSystems() []api.Sys {
	l := []api.Sys{}
	for _, n := range farNumbers() {
		l = append(l, with(lay(2, 3, 3, 2, 4), func(s *api.Sys) {
			for id := range s.C {
				s.C[id].V = n
				s.C[id].X = [3]int{n, n, n}
				for i := range s.C[id].F {
					s.C[id].F[i].R = [8]int{n, n, n, n, n, n, n, n}
				}
			}
		}))
	}
	return l
}

// wrongSystems aren't right, each for one cause: what is changed is once that of the first core, once that of the last.
func wrongSystems() []api.Sys {
	l := []api.Sys{{}, {M: lay(1, 1, 0, 0, 0).M}, {C: make([]api.Core, 1)}, {M: lay(1, 1, 0, 0, 0).M, C: []api.Core{}}, lay(9, 4, 1, 1, 1), lay(10, 4, 0, 0, 0), lay(100, 1, 0, 0, 0)}
	for _, s := range []api.Sys{lay(1, 1, 2, 3, 4), lay(8, 200, 40, 24, 200)} {
		l = append(l, wrongArenas(s)...)
		for _, id := range []int{0, len(s.C) - 1} {
			l = append(l, wrongCores(s, id)...)
		}
	}
	return l
}

func wrongArenas(s api.Sys) []api.Sys {
	return []api.Sys{
		with(s, func(s *api.Sys) { s.M = api.Mem{} }),
		with(s, func(s *api.Sys) { s.M.W = nil }),
		with(s, func(s *api.Sys) { s.M.G = nil }),
		with(s, func(s *api.Sys) { s.M.W = append(s.M.W, 0) }),
		with(s, func(s *api.Sys) { s.M.G = append(s.M.G, 0) }),
		with(s, func(s *api.Sys) { s.M.G[0] = api.Live }),
		with(s, func(s *api.Sys) { s.M.G[1] = 3 }),
		with(s, func(s *api.Sys) { s.M.G[len(s.M.G)-1] = -1 }),
		with(s, func(s *api.Sys) { s.M = api.Mem{W: make([]int, 932), G: make([]int, 202)} }),
		with(s, func(s *api.Sys) { s.M = api.Mem{W: make([]int, 128), G: make([]int, 1)} }),
	}
}

func wrongCores(s api.Sys, id int) []api.Sys {
	l := []api.Sys{
		with(s, func(s *api.Sys) { s.C[id].F = make([]api.Frame, 41) }),
		with(s, func(s *api.Sys) { s.C[id].F = make([]api.Frame, 100) }),
		with(s, func(s *api.Sys) { s.C[id].Ret = make([]int, 201) }),
		with(s, func(s *api.Sys) { s.C[id].Ret = make([]int, 1000) }),
	}
	for _, i := range []int{0, len(s.C[id].F) - 1} {
		for _, seen := range []int{25, 26, 200} {
			l = append(l, with(s, func(s *api.Sys) { s.C[id].F[i].S = make([]int, seen) }))
		}
	}
	for _, n := range farNumbers() {
		l = append(l, with(s, func(s *api.Sys) { s.C[id].V = n }))
		for i := range 3 {
			l = append(l, with(s, func(s *api.Sys) { s.C[id].X[i] = n }))
		}
		for _, i := range []int{0, len(s.C[id].F) - 1} {
			for r := range 8 {
				l = append(l, with(s, func(s *api.Sys) { s.C[id].F[i].R[r] = n }))
			}
		}
	}
	return l
}

// noCores are places of none of a system's.
func noCores(s api.Sys) []int {
	n := len(s.C)
	return []int{-1, -2, -8, -n, -n - 1, math.MinInt, n, n + 1, n + 8, 100, 1 << 40, math.MaxInt}
}

// TestNew: P3.1, from the least to the greatest.
func TestNew(t *testing.T) {
	for cores := 1; cores <= 8; cores++ {
		for _, nodes := range []int{1, 2, 17, 199, 200} {
			s, e := core.New(cores, nodes)
			want := api.Sys{M: api.Mem{W: make([]int, 128+4*nodes), G: make([]int, 1+nodes)}, C: make([]api.Core, cores)}
			if e != api.OK || !same(s, want) || !core.Right(s) {
				t.Errorf("New(%d, %d): %v, %d", cores, nodes, s, e)
			}
		}
	}
}

// TestNewWrong: P3.1, what no system has; beside the error there is none.
func TestNewWrong(t *testing.T) {
	off := func(least, greatest int) []int {
		return []int{least - 1, least - 2, -least, -greatest, math.MinInt, greatest + 1, greatest + 2, 1 << 40, math.MaxInt}
	}
	check := func(cores, nodes int) {
		t.Helper()
		if s, e := core.New(cores, nodes); e != api.ErrArg || !reflect.DeepEqual(s, api.Sys{}) {
			t.Errorf("New(%d, %d) = %v, %d; want none, ErrArg", cores, nodes, s, e)
		}
	}
	for _, cores := range off(1, 8) {
		for _, nodes := range []int{1, 4, 8, 200} {
			check(cores, nodes)
		}
		for _, nodes := range off(1, 200) {
			check(cores, nodes)
		}
	}
	for _, cores := range []int{1, 2, 8} {
		for _, nodes := range off(1, 200) {
			check(cores, nodes)
		}
	}
}

// TestNewIsAnother: P3.1 and R4, no two systems share anything.
func TestNewIsAnother(t *testing.T) {
	a, _ := core.New(2, 2)
	a.M.W[0], a.M.G[1], a.C[0].V, a.C[1].V = 5, api.Live, 6, 7
	b, _ := core.New(2, 2)
	if b.M.W[0] != 0 || b.M.G[1] != api.Free || b.C[0].V != 0 || b.C[1].V != 0 {
		t.Errorf("New(2, 2) once more: %v", b)
	}
}

// TestRight: P3.1, of systems that are, with all that may be and with nothing, and with events that are anything.
func TestRight(t *testing.T) {
	for i, s := range someSystems() {
		if !core.Right(s) {
			t.Errorf("%d: not right", i)
		}
	}
	for _, n := range []int{greatest, least, greatest - 1, least + 1, 0} {
		s := lay(8, 1, 40, 24, 200)
		for id := range s.C {
			s.C[id].V = n
			s.C[id].X = [3]int{n, n, n}
			for i := range s.C[id].F {
				s.C[id].F[i].R = [8]int{n, n, n, n, n, n, n, n}
			}
		}
		if !core.Right(s) {
			t.Errorf("V, X and registers %d: not right", n)
		}
	}
	for _, n := range farNumbers() {
		s := lay(2, 1, 2, 3, 4)
		s.L = append(s.L, api.Ev{Core: n, Kind: n, A: n, B: n, V: n})
		s.C[1].F[1].Op, s.C[1].F[1].Pc, s.C[1].F[1].S[2], s.C[1].Ret[3], s.C[1].E, s.M.W[0] = n, n, n, n, api.Errno(n), n
		if !core.Right(s) {
			t.Errorf("other numbers, %d: not right", n)
		}
	}
}

// TestRightWrong: P3.1, of systems that aren't.
func TestRightWrong(t *testing.T) {
	for i, s := range append(wrongSystems(), farSystems()...) {
		if core.Right(s) {
			t.Errorf("%d: right", i)
		}
	}
}

// TestTop: P3.1, each core's last frame, or none.
func TestTop(t *testing.T) {
	for i, s := range append(someSystems(), farSystems()...) {
		for id, c := range s.C {
			want, has := api.Frame{}, len(c.F) > 0
			if has {
				want = c.F[len(c.F)-1]
			}
			if f, is := core.Top(s, id); is != has || !sameFrame(f, want) {
				t.Errorf("%d: Top(%d) = %v, %t; want %v, %t", i, id, f, is, want, has)
			}
		}
	}
}

// TestTopNoCore: P3.1, places at which there is no core.
func TestTopNoCore(t *testing.T) {
	for _, s := range append(someSystems(), api.Sys{}) {
		for _, id := range noCores(s) {
			if f, is := core.Top(s, id); is || !sameFrame(f, api.Frame{}) {
				t.Errorf("of %d cores: Top(%d) = %v, %t; want none, no", len(s.C), id, f, is)
			}
		}
	}
}

// changes are all of which each makes another system of one that has at least two cores, frames, numbers S, retired nodes and events.
func changes() []func(s *api.Sys) {
	l := []func(s *api.Sys){
		func(s *api.Sys) { s.M.Bad = !s.M.Bad },
		func(s *api.Sys) { s.M.W[0]++ },
		func(s *api.Sys) { s.M.W[len(s.M.W)-1]++ },
		func(s *api.Sys) { s.M.W = append(s.M.W, 0) },
		func(s *api.Sys) { s.M.G[0]++ },
		func(s *api.Sys) { s.M.G[len(s.M.G)-1]++ },
		func(s *api.Sys) { s.M.G = append(s.M.G, 0) },
		func(s *api.Sys) { s.C = append(s.C, api.Core{}) },
		func(s *api.Sys) { s.C = s.C[:len(s.C)-1] },
		func(s *api.Sys) { s.C[0], s.C[1] = s.C[1], s.C[0] },
		func(s *api.Sys) { s.C = nil },
		func(s *api.Sys) { s.L = append(s.L, api.Ev{}) },
		func(s *api.Sys) { s.L = s.L[:len(s.L)-1] },
		func(s *api.Sys) { s.L = s.L[1:] },
		func(s *api.Sys) { s.L[0], s.L[1] = s.L[1], s.L[0] },
		func(s *api.Sys) { s.L = nil },
		func(s *api.Sys) { s.L[0].Core++ },
		func(s *api.Sys) { s.L[0].Kind++ },
		func(s *api.Sys) { s.L[0].A++ },
		func(s *api.Sys) { s.L[0].B++ },
		func(s *api.Sys) { s.L[len(s.L)-1].V++ },
	}
	for id := range 2 {
		l = append(l, coreChanges(id)...)
	}
	return l
}

func coreChanges(id int) []func(s *api.Sys) {
	l := []func(s *api.Sys){
		func(s *api.Sys) { s.C[id].V++ },
		func(s *api.Sys) { s.C[id].E++ },
		func(s *api.Sys) { s.C[id].X[0]++ },
		func(s *api.Sys) { s.C[id].X[1]++ },
		func(s *api.Sys) { s.C[id].X[2]++ },
		func(s *api.Sys) { s.C[id].Ret[0]++ },
		func(s *api.Sys) { s.C[id].Ret[1]++ },
		func(s *api.Sys) { s.C[id].Ret[0], s.C[id].Ret[1] = s.C[id].Ret[1], s.C[id].Ret[0] },
		func(s *api.Sys) { s.C[id].Ret = append(s.C[id].Ret, 0) },
		func(s *api.Sys) { s.C[id].Ret = nil },
		func(s *api.Sys) { s.C[id].F = nil },
		func(s *api.Sys) { s.C[id].F = s.C[id].F[1:] },
		func(s *api.Sys) { s.C[id].F = append(s.C[id].F, api.Frame{}) },
		func(s *api.Sys) { s.C[id].F[0], s.C[id].F[1] = s.C[id].F[1], s.C[id].F[0] },
	}
	for i := range 2 {
		l = append(l,
			func(s *api.Sys) { s.C[id].F[i].Op++ },
			func(s *api.Sys) { s.C[id].F[i].Pc++ },
			func(s *api.Sys) { s.C[id].F[i].S[0]++ },
			func(s *api.Sys) { s.C[id].F[i].S[1]++ },
			func(s *api.Sys) { s.C[id].F[i].S = append(s.C[id].F[i].S, 0) },
			func(s *api.Sys) { s.C[id].F[i].S = nil })
		for r := range 8 {
			l = append(l, func(s *api.Sys) { s.C[id].F[i].R[r]++ })
		}
	}
	return l
}

// TestSame: P3.1, systems, right and not, held against others of the same elements, and against each with one of them changed.
func TestSame(t *testing.T) {
	all := slices.Concat(someSystems(), farSystems(), wrongSystems())
	for i, s := range all {
		if !core.Same(s, s) || !core.Same(s, clone(s)) || !core.Same(clone(s), s) || !core.Same(s, filled(s)) {
			t.Errorf("%d: Same with itself: no", i)
		}
		if other := with(s, func(s *api.Sys) { s.M.Bad = !s.M.Bad }); core.Same(s, other) || core.Same(other, s) {
			t.Errorf("%d: Same with Bad changed: yes", i)
		}
	}
	wide := lay(9, 3, 2, 2, 2)
	deep := lay(2, 3, 41, 25, 201)
	for _, s := range []api.Sys{lay(2, 3, 2, 2, 2), lay(8, 200, 40, 24, 200), wide, deep} {
		for i, do := range changes() {
			if other := with(s, do); core.Same(s, other) || core.Same(other, s) {
				t.Errorf("%d cores: Same behind change %d: yes", len(s.C), i)
			}
		}
	}
}

// TestSameBeyond: P3.1, of systems that aren't right: one core, frame, number S or retired node too many, or a number one too far, each held against the one without it.
func TestSameBeyond(t *testing.T) {
	s := lay(8, 4, 40, 24, 200)
	for i, do := range []func(s *api.Sys){
		func(s *api.Sys) { s.C = append(s.C, api.Core{}) },
		func(s *api.Sys) { s.C[7].F = append(s.C[7].F, api.Frame{}) },
		func(s *api.Sys) { s.C[7].F[39].S = append(s.C[7].F[39].S, 0) },
		func(s *api.Sys) { s.C[7].Ret = append(s.C[7].Ret, 0) },
		func(s *api.Sys) { s.C[7].V = greatest + 1 },
		func(s *api.Sys) { s.C[7].X[2] = least - 1 },
		func(s *api.Sys) { s.C[7].F[39].R[7] = greatest + 1 },
		func(s *api.Sys) { s.M.G = nil },
	} {
		if a := with(s, do); core.Same(a, s) || core.Same(s, a) || !core.Same(a, with(s, do)) {
			t.Errorf("%d: Same of it and s %t, of it and itself %t", i, core.Same(a, s), core.Same(a, with(s, do)))
		}
	}
}

// TestSameEmpty: P3.1 and R3, a list without elements is the same, nil or not.
func TestSameEmpty(t *testing.T) {
	a := api.Sys{C: []api.Core{{F: []api.Frame{{}}}}}
	b := api.Sys{M: api.Mem{W: []int{}, G: []int{}}, C: []api.Core{{F: []api.Frame{{S: []int{}}}, Ret: []int{}}}, L: []api.Ev{}}
	c := api.Sys{C: []api.Core{{F: []api.Frame{}}}}
	d := api.Sys{C: []api.Core{{}}}
	if !core.Same(a, b) || !core.Same(b, a) || !core.Same(c, d) || !core.Same(api.Sys{C: []api.Core{}}, api.Sys{}) {
		t.Error("Same of lists without elements: no")
	}
	if core.Same(a, c) || core.Same(d, api.Sys{}) {
		t.Error("Same of a list without elements and one with one: yes")
	}
}

// TestCall: P3.2 and P3.3, at each core that has fewer than 40 frames, with from no args to more than 8.
func TestCall(t *testing.T) {
	for i, s := range append(someSystems(), farSystems()...) {
		for id := range s.C {
			if len(s.C[id].F) == 40 {
				continue
			}
			for n := range 12 {
				args := numbers(n, -5)
				f := api.Frame{Op: 3 + n}
				for r := range min(n, 8) {
					f.R[r] = -5 + 3*r
				}
				want := with(s, func(s *api.Sys) { s.C[id].F = append(s.C[id].F, f) })
				got := core.Call(s, id, 3+n, args...)
				if !same(got, want) {
					t.Fatalf("%d: Call(%d, %d, %v): %v; want %v", i, id, 3+n, args, got, want)
				}
				if top, is := core.Top(got, id); !is || !sameFrame(top, f) {
					t.Fatalf("%d: Call(%d, %d, %v): the top is %v, %t", i, id, 3+n, args, top, is)
				}
			}
		}
	}
}

// TestCallNumbers: P3.2, ops and args of any size stand in the frame as they are.
func TestCallNumbers(t *testing.T) {
	s, _ := core.New(1, 1)
	for _, n := range append(farNumbers(), 0, -1, greatest, least) {
		f, is := core.Top(core.Call(s, 0, n, n, 1, n), 0)
		if want := (api.Frame{Op: n, R: [8]int{n, 1, n}}); !is || !sameFrame(f, want) {
			t.Errorf("Call of %d: %v, %t", n, f, is)
		}
	}
	eight := []int{greatest, least, greatest, least, greatest, least, greatest, least}
	if a := core.Call(s, 0, 1, eight...); !core.Right(a) || a.C[0].F[0].R != [8]int(eight) {
		t.Errorf("Call of the farthest args: %v", a)
	}
}

// TestCallDeep: P3.2, 40 calls are done, and one more isn't, whichever core it is of; the others may still call.
func TestCallDeep(t *testing.T) {
	for _, cores := range []int{1, 2, 8} {
		for _, id := range []int{0, cores - 1} {
			s, _ := core.New(cores, 1)
			for i := range 40 {
				s = core.Call(s, id, i, i+100)
				if len(s.C[id].F) != i+1 || s.C[id].F[i].Op != i || s.C[id].F[i].R[0] != i+100 {
					t.Fatalf("of %d cores: call %d: %v", cores, i, s.C[id].F)
				}
			}
			was := clone(s)
			if got := core.Call(s, id, 77, 1, 2); !same(got, was) || !core.Right(got) {
				t.Errorf("of %d cores: a call at 40 frames: %d frames", cores, len(got.C[id].F))
			}
			if cores > 1 {
				if got := core.Call(s, cores-1-id, 77); len(got.C[cores-1-id].F) != 1 {
					t.Errorf("of %d cores: a call beside 40 frames: %v", cores, got.C[cores-1-id].F)
				}
			}
			back := core.Back(s, id, 1, api.OK)
			if got := core.Call(back, id, 77); len(back.C[id].F) != 39 || len(got.C[id].F) != 40 || got.C[id].F[39].Op != 77 {
				t.Errorf("of %d cores: a call at 39 frames: %d frames", cores, len(got.C[id].F))
			}
		}
	}
}

// TestSet: P3.2 and P3.3, the top of each core that has one is another frame then; S may be of 24, of none, and nil.
func TestSet(t *testing.T) {
	frames := []api.Frame{{}, {S: []int{}}, frame(7, 24), frame(8, 1), {Op: -1, Pc: -2, R: [8]int{greatest, 7: least}}, {Op: math.MaxInt, Pc: math.MinInt, R: [8]int{3: math.MaxInt}, S: []int{math.MinInt}}}
	for i, s := range append(someSystems(), farSystems()...) {
		for id := range s.C {
			for _, f := range frames {
				want := with(s, func(s *api.Sys) {
					if n := len(s.C[id].F); n > 0 {
						s.C[id].F[n-1] = f
					}
				})
				if got := core.Set(s, id, f); !same(got, want) {
					t.Fatalf("%d: Set(%d, %v): %v; want %v", i, id, f, got, want)
				}
			}
		}
	}
}

// TestSetNone: P3.2, a core that has no frame isn't given one.
func TestSetNone(t *testing.T) {
	for _, cores := range []int{1, 2, 8} {
		s := lay(cores, 3, 0, 0, 2)
		for id := range s.C {
			if got := core.Set(s, id, frame(5, 2)); !same(got, s) {
				t.Errorf("of %d cores: Set(%d) with no frame: %v", cores, id, got)
			}
		}
	}
}

// TestBack: P3.2 and P3.3, what ends leaves the one below; V and E are as told, of any size.
func TestBack(t *testing.T) {
	for i, s := range append(someSystems(), farSystems()...) {
		for id := range s.C {
			for _, v := range []int{0, 8, -1, greatest, least, math.MaxInt, math.MinInt} {
				for _, e := range []api.Errno{api.OK, api.ErrFull, api.ErrBlock, -1, 99} {
					want := with(s, func(s *api.Sys) {
						if c := &s.C[id]; len(c.F) > 0 {
							c.F, c.V, c.E = c.F[:len(c.F)-1], v, e
						}
					})
					if got := core.Back(s, id, v, e); !same(got, want) {
						t.Fatalf("%d: Back(%d, %d, %d): %v; want %v", i, id, v, e, got, want)
					}
				}
			}
		}
	}
}

// TestBackNone: P3.2, where there is no frame V and E stay.
func TestBackNone(t *testing.T) {
	for _, cores := range []int{1, 2, 8} {
		s := lay(cores, 3, 0, 0, 2)
		for id := range s.C {
			if got := core.Back(s, id, 999, api.ErrDead); !same(got, s) {
				t.Errorf("of %d cores: Back(%d) with no frame: %v", cores, id, got.C[id])
			}
		}
	}
}

// TestExample: P3.2, the one that the chapter gives.
func TestExample(t *testing.T) {
	s, _ := core.New(1, 1)
	s = core.Back(core.Call(s, 0, 3, 7), 0, 8, api.OK)
	if _, is := core.Top(s, 0); is || len(s.C[0].F) != 0 || s.C[0].V != 8 || s.C[0].E != api.OK {
		t.Errorf("%v", s.C[0])
	}
}

// TestLog: P3.2 and P3.3, an event more, behind the others, of each core, whether or not it has a frame.
func TestLog(t *testing.T) {
	for i, s := range append(someSystems(), farSystems()...) {
		for id := range s.C {
			for _, x := range [][4]int{{0, 0, 0, 0}, {1, 2, 3, 4}, {-1, -2, -3, -4}, {math.MaxInt, math.MinInt, greatest + 1, least - 1}} {
				want := with(s, func(s *api.Sys) { s.L = append(s.L, api.Ev{Core: id, Kind: x[0], A: x[1], B: x[2], V: x[3]}) })
				if got := core.Log(s, id, x[0], x[1], x[2], x[3]); !same(got, want) {
					t.Fatalf("%d: Log(%d, %v): %v; want %v", i, id, x, got.L, want.L)
				}
			}
		}
	}
}

// TestNoCore: P3.2, places at which there is no core: the system, as it was.
func TestNoCore(t *testing.T) {
	for i, s := range slices.Concat(someSystems(), farSystems(), []api.Sys{{}}) {
		for _, id := range noCores(s) {
			for _, x := range []struct {
				what string
				got  api.Sys
			}{
				{"Call", core.Call(s, id, 3, 1, 2)},
				{"Call with no args", core.Call(s, id, 3)},
				{"Set", core.Set(s, id, frame(9, 3))},
				{"Back", core.Back(s, id, 999, api.ErrArg)},
				{"Log", core.Log(s, id, 1, 2, 3, 4)},
			} {
				if !same(x.got, s) || !core.Same(x.got, s) {
					t.Errorf("%d: %s at the core %d: %v", i, x.what, id, x.got)
				}
			}
		}
	}
}

// TestSeries: P3.2 and P3.3, many calls in a row on one system beside a plain one that is written into; what was answered ahead stays as it was.
func TestSeries(t *testing.T) {
	seed := 1
	pick := func(n int) int {
		seed = (seed*1103515245 + 12345) % (1 << 31)
		return seed / 65536 % n
	}
	for _, cores := range []int{1, 2, 8} {
		s, _ := core.New(cores, 3)
		plain := clone(s)
		for i := range 2000 {
			id := pick(cores+2) - 1
			is := id >= 0 && id < cores
			ahead, was := s, clone(plain)
			c := &api.Core{}
			if is {
				c = &plain.C[id]
			}
			n := len(c.F)
			switch pick(5) {
			case 0, 1:
				args := numbers(pick(10), i)
				s = core.Call(s, id, i, args...)
				if is && n < 40 {
					f := api.Frame{Op: i}
					copy(f.R[:], args)
					c.F = append(c.F, f)
				}
			case 2:
				f := frame(i, pick(25))
				s = core.Set(s, id, f)
				if is && n > 0 {
					c.F[n-1] = f
				}
			case 3:
				s = core.Back(s, id, i, api.Errno(i%7))
				if is && n > 0 {
					c.F, c.V, c.E = c.F[:n-1], i, api.Errno(i%7)
				}
			case 4:
				if pick(10) == 0 {
					s = core.Log(s, id, i, i+1, i+2, i+3)
					if is {
						plain.L = append(plain.L, api.Ev{Core: id, Kind: i, A: i + 1, B: i + 2, V: i + 3})
					}
				}
			}
			if !same(s, plain) || !core.Same(s, plain) || !core.Right(s) {
				t.Fatalf("%d: another system than the plain one", i)
			}
			if !same(ahead, was) {
				t.Fatalf("%d: the system ahead of the call is another one", i)
			}
		}
	}
}

// TestNested: P3.3, ops that call ops, on two cores in turn: each that ends leaves the one that called it.
func TestNested(t *testing.T) {
	s, _ := core.New(2, 5)
	m, _ := mem.New(5)
	for i := range 40 {
		s = core.Call(s, 0, i, i)
		s = core.Call(s, 1, 100+i, -i)
		s = core.Log(s, i%2, i, 0, 0, 0)
	}
	for i := 39; i >= 0; i-- {
		for id := range 2 {
			f, is := core.Top(s, id)
			if !is || f.Op != 100*id+i || f.R[0] != i*(1-2*id) {
				t.Fatalf("%d: Top(%d) = %v, %t", i, id, f, is)
			}
			s = core.Back(s, id, 500*id+i, api.OK)
			if s.C[id].V != 500*id+i || len(s.C[id].F) != i || len(s.C[1].F) != i+1-id {
				t.Fatalf("%d: Back(%d): %v", i, id, s.C)
			}
		}
	}
	if len(s.L) != 40 || !mem.Same(s.M, m) {
		t.Errorf("behind all: %d events, %v", len(s.L), s.M)
	}
	for i, ev := range s.L {
		if ev != (api.Ev{Core: i % 2, Kind: i}) {
			t.Errorf("event %d: %v", i, ev)
		}
	}
}

// scribble writes into all that a system's lists have, also where they may grow.
func scribble(s api.Sys) {
	spoil := func(l []int) {
		l = l[:cap(l)]
		for i := range l {
			l[i] += 3
		}
	}
	spoil(s.M.W)
	spoil(s.M.G)
	for i := range s.L[:cap(s.L)] {
		s.L[:cap(s.L)][i].Kind += 3
	}
	for id := range s.C {
		c := &s.C[id]
		spoil(c.Ret)
		for i := range c.F[:cap(c.F)] {
			f := &c.F[:cap(c.F)][i]
			spoil(f.S)
			f.Op += 3
			f.R[0] += 3
		}
		c.V += 3
		c.X[0] += 3
	}
}

// TestNotWrittenInto: R3, no call writes into the system, its arena, cores, frames or events, also where these have room behind them, and what is written into an answer isn't seen there.
func TestNotWrittenInto(t *testing.T) {
	for _, s := range append(someSystems(), farSystems()...) {
		roomy(s)
		was := clone(s)
		check := func(what string, got api.Sys) {
			t.Helper()
			if !same(s, was) {
				t.Fatalf("%s: the system that was handed in is another one", what)
			}
			scribble(got)
			if !same(s, was) || !blankBehind(s) {
				t.Fatalf("%s: the answer shares memory with the system that was handed in", what)
			}
		}
		for _, id := range []int{-1, 0, len(s.C) - 1, len(s.C)} {
			check("Call", core.Call(s, id, 3, 1, 2, 3))
			check("Set", core.Set(s, id, frame(5, 3)))
			check("Back", core.Back(s, id, 4, api.ErrNone))
			check("Log", core.Log(s, id, 1, 2, 3, 4))
			f, _ := core.Top(s, id)
			check("Top", api.Sys{C: []api.Core{{F: []api.Frame{f}}}})
		}
	}
}

// TestAskedNotWrittenInto: R3, Right and Same don't write into what they are asked of, right or not.
func TestAskedNotWrittenInto(t *testing.T) {
	for i, s := range slices.Concat(someSystems(), farSystems(), wrongSystems()) {
		was, other := clone(s), lay(2, 2, 2, 2, 2)
		core.Right(s)
		core.Same(s, other)
		core.Same(other, s)
		core.Same(s, s)
		if !same(s, was) || !same(other, lay(2, 2, 2, 2, 2)) {
			t.Errorf("%d: a system that was handed in is another one", i)
		}
	}
}

// roomy gives each list of a system room behind its end, which a call that appends in place would write into.
func roomy(s api.Sys) {
	for id := range s.C {
		c := &s.C[id]
		c.F = append(make([]api.Frame, 0, len(c.F)+2), c.F...)
		c.Ret = append(make([]int, 0, len(c.Ret)+2), c.Ret...)
	}
}

// blankBehind: is there nothing in the room that roomy gave?
func blankBehind(s api.Sys) bool {
	for _, c := range s.C {
		for _, f := range c.F[len(c.F):cap(c.F)] {
			if !sameFrame(f, api.Frame{}) {
				return false
			}
		}
		for _, n := range c.Ret[len(c.Ret):cap(c.Ret)] {
			if n != 0 {
				return false
			}
		}
	}
	return true
}

// TestRoomBehind: R3, two answers made of one system whose lists have room behind them don't see each other.
func TestRoomBehind(t *testing.T) {
	s := lay(2, 3, 1, 1, 1)
	roomy(s)
	s.L = append(make([]api.Ev, 0, 9), s.L...)
	a, b := core.Call(s, 0, 5, 1), core.Call(s, 0, 6, 2)
	c, d := core.Log(s, 0, 7, 1, 1, 1), core.Log(s, 1, 8, 2, 2, 2)
	if a.C[0].F[1].Op != 5 || b.C[0].F[1].Op != 6 || c.L[2].Kind != 7 || d.L[2].Kind != 8 {
		t.Errorf("calls of one system: %v, %v; %v, %v", a.C[0].F, b.C[0].F, c.L, d.L)
	}
	if behind := s.L[:9]; behind[2] != (api.Ev{}) || !blankBehind(s) {
		t.Error("a call wrote behind the end of a list that was handed in")
	}
	back := core.Back(a, 0, 1, api.OK)
	core.Call(back, 0, 9, 3)
	if a.C[0].F[1].Op != 5 || len(a.C[0].F) != 2 {
		t.Errorf("a call behind Back is seen ahead of it: %v", a.C[0].F)
	}
}

// TestArgsKept: R3, args and what a frame has seen are neither written into nor kept.
func TestArgsKept(t *testing.T) {
	s := lay(2, 3, 1, 1, 1)
	for n := range 12 {
		args := numbers(n, 5)
		a := core.Call(s, 1, 3, args...)
		if !slices.Equal(args, numbers(n, 5)) {
			t.Errorf("Call wrote into its args: %v", args)
		}
		was := clone(a)
		for i := range args {
			args[i] = -1
		}
		if !same(a, was) {
			t.Errorf("Call kept its args: %v", a.C[1].F)
		}
		a.C[1].F[1].R = [8]int{7, 7, 7, 7, 7, 7, 7, 7}
		if slices.Contains(args, 7) {
			t.Errorf("Call's answer shares its args: %v", args)
		}
	}
	f := frame(5, 24)
	a := core.Set(s, 1, f)
	was := clone(a)
	if !sameFrame(f, frame(5, 24)) {
		t.Errorf("Set wrote into its frame: %v", f)
	}
	f.S[0], f.S[23] = -1, -1
	if !same(a, was) {
		t.Errorf("Set kept its frame's S: %v", a.C[1].F)
	}
	scribble(a)
	if f.S[1] != frame(5, 24).S[1] {
		t.Errorf("Set's answer shares its frame's S: %v", f.S)
	}
}

// TestListsApart: no two lists of one answer share memory, also where those of the system that was handed in do.
func TestListsApart(t *testing.T) {
	one := []int{1, 2, 3}
	frames := []api.Frame{{Op: 1, S: one}, {Op: 2, S: one}}
	s := api.Sys{M: lay(1, 1, 0, 0, 0).M, C: []api.Core{{F: frames, Ret: one}, {F: frames, Ret: one}}}
	for i, got := range []api.Sys{core.Call(s, 0, 3), core.Set(s, 0, api.Frame{Op: 2, S: one}), core.Log(s, 0, 1, 2, 3, 4), core.Back(s, 1, 2, api.OK), core.Call(s, 5, 1)} {
		got.C[0].F[0].S[0] = 9
		got.C[0].F[0].Op = 9
		got.C[0].Ret[1] = 9
		if got.C[0].F[1].S[0] != 1 || got.C[1].F[0].S[0] != 1 || got.C[1].F[0].Op != 1 || got.C[1].Ret[1] != 2 || got.C[0].F[0].S[1] != 2 {
			t.Errorf("%d: lists of one answer share memory: %v", i, got.C)
		}
	}
}

// TestAgain: R4, a call that is done again answers the same.
func TestAgain(t *testing.T) {
	for i, s := range someSystems() {
		for id := range s.C {
			if !same(core.Call(s, id, 3, 1, 2), core.Call(s, id, 3, 1, 2)) || !same(core.Set(s, id, frame(1, 2)), core.Set(s, id, frame(1, 2))) ||
				!same(core.Back(s, id, 3, api.OK), core.Back(s, id, 3, api.OK)) || !same(core.Log(s, id, 1, 2, 3, 4), core.Log(s, id, 1, 2, 3, 4)) {
				t.Errorf("%d: core %d: a call done again answers another system", i, id)
			}
		}
	}
}
