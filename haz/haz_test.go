package haz_test

import (
	"math"
	"reflect"
	"slices"
	"testing"

	"hazel/api"
	"hazel/core"
	"hazel/haz"
	"hazel/mem"
	"hazel/pack"
	"hazel/stack"
)

const (
	lastTag = 1<<40 - 1
	mostNo  = 1<<20 - 1 // the greatest index
	at      = 100       // the place of the word that is looked at, if nothing else is said
)

// word is a packed word, written out: its tag, index and mark.
func word(tag, index, mark int) int { return tag<<21 + index<<1 + mark }

// slotAt is the place of a core's slot, written out.
func slotAt(id, slot int) int { return 8 + 3*id + slot }

// numbers are n of them, no two the same.
func numbers(n, from int) []int {
	l := []int{}
	for i := range n {
		l = append(l, from+3*i)
	}
	return l
}

// holds is an arena of n nodes, node by node Free, Live and Retired, with that word at the place at; all other words are anything.
func holds(n, w int) api.Mem {
	m := api.Mem{W: numbers(128+4*n, 7001), G: make([]int, 1+n)}
	for node := 1; node <= n; node++ {
		m.G[node] = (node - 1) % 3
	}
	m.W[at] = w
	return m
}

// lay is a system on an arena, with so many cores, each with two frames below, retired nodes and numbers, and with events.
func lay(m api.Mem, cores int) api.Sys {
	s := api.Sys{M: cloneMem(m)}
	for id := range cores {
		c := api.Core{V: 50 + id, E: api.Errno(1 + id), X: [3]int{60 + id, 70 + id, 80 + id}, Ret: numbers(id, 90+id)}
		for i := range 2 {
			c.F = append(c.F, api.Frame{Op: api.OAlloc + i, Pc: 3 + id, R: [8]int{id, i, 2, 3, 4, 5, 6, 7}, S: numbers(i, 100+id)})
		}
		s.C = append(s.C, c)
		s.L = append(s.L, api.Ev{Core: id, Kind: 1 + id, A: 20 + id, B: 30 + id, V: 40 + id})
	}
	return s
}

// clone is the same system in other memory; in it no list is nil, so that such without elements are alike (R3).
func clone(s api.Sys) api.Sys {
	c := api.Sys{M: cloneMem(s.M), C: []api.Core{}, L: append([]api.Ev{}, s.L...)}
	for _, x := range s.C {
		y := api.Core{F: []api.Frame{}, V: x.V, E: x.E, X: x.X, Ret: append([]int{}, x.Ret...)}
		for _, f := range x.F {
			y.F = append(y.F, api.Frame{Op: f.Op, Pc: f.Pc, R: f.R, S: append([]int{}, f.S...)})
		}
		c.C = append(c.C, y)
	}
	return c
}

func cloneMem(m api.Mem) api.Mem {
	return api.Mem{W: append([]int{}, m.W...), G: append([]int{}, m.G...), Bad: m.Bad}
}

// same: are two systems the same, all of it, held against each other without the program?
func same(a, b api.Sys) bool { return reflect.DeepEqual(clone(a), clone(b)) }

// with is the system with something changed.
func with(s api.Sys, do func(s *api.Sys)) api.Sys {
	c := clone(s)
	do(&c)
	return c
}

// over is the system with a frame over those of a core.
func over(s api.Sys, id int, f api.Frame) api.Sys {
	return with(s, func(s *api.Sys) { s.C[id].F = append(s.C[id].F, f) })
}

// top is a core's last frame, to be changed.
func top(s *api.Sys, id int) *api.Frame { return &s.C[id].F[len(s.C[id].F)-1] }

// ends takes a core's last frame away.
func ends(s *api.Sys, id, v int, e api.Errno) {
	s.C[id].F = s.C[id].F[:len(s.C[id].F)-1]
	s.C[id].V, s.C[id].E = v, e
}

// TestPlace: P5.1, all slots of all cores, each at a place of its own.
func TestPlace(t *testing.T) {
	want := 8
	for id := range 8 {
		for slot := range 3 {
			if got := haz.Place(id, slot); got != want {
				t.Errorf("Place(%d, %d) = %d; want %d", id, slot, got, want)
			}
			want++
		}
	}
	if haz.Place(2, 1) != 15 || haz.Place(0, 0) != 8 || haz.Place(7, 2) != 31 {
		t.Error("the example, the first one, or the last one")
	}
}

// TestPlaceOdd: P5.1 and R5, numbers of no core or slot are reckoned with as well, and go round at 2^64.
func TestPlaceOdd(t *testing.T) {
	for _, c := range []struct{ id, slot, want int }{
		{8, 0, 32}, {0, 3, 11}, {0, -1, 7}, {-1, 0, 5}, {-1, 3, 8}, {1, -3, 8}, {0, -8, 0}, {0, -9, -1},
		{1 << 40, 1, 3<<40 + 9}, {0, math.MaxInt, math.MinInt + 7}, {0, math.MinInt, math.MinInt + 8},
		{math.MaxInt, 0, math.MinInt + 5}, {math.MinInt, 2, math.MinInt + 10}, {1 << 62, 1 << 62, 8}, {math.MaxInt, math.MinInt, 5},
	} {
		if got := haz.Place(c.id, c.slot); got != c.want {
			t.Errorf("Place(%d, %d) = %d; want %d", c.id, c.slot, got, c.want)
		}
	}
}

// TestOwn: P5.1, two ops are, and no other number is.
func TestOwn(t *testing.T) {
	for op := -100; op <= 100; op++ {
		if is, want := haz.Own(op), op == 3 || op == 4; is != want {
			t.Errorf("Own(%d) = %t", op, is)
		}
	}
	for _, op := range []int{math.MinInt, math.MaxInt, 1<<32 + 3, 1<<32 + 4, -1 << 40} {
		if haz.Own(op) {
			t.Errorf("Own(%d)", op)
		}
	}
}

// change is a step as it must be: of a top on an arena, and what it changes.
type change struct {
	name string
	m    api.Mem
	f    api.Frame
	do   func(s *api.Sys, id int)
}

// prot is a frame of OProt at a step.
func prot(pc int, r ...int) api.Frame {
	f := api.Frame{Op: api.OProt, Pc: pc}
	copy(f.R[:], r)
	return f
}

// looks is what a first look that goes on changes.
func looks(w int) func(s *api.Sys, id int) {
	return func(s *api.Sys, id int) { top(s, id).Pc, top(s, id).R[2] = 1, w }
}

// names is what a store in a slot changes.
func names(slot, node int) func(s *api.Sys, id int) {
	return func(s *api.Sys, id int) {
		s.M.W[slotAt(id, slot)] = node
		top(s, id).Pc = 2
	}
}

// again is what a second look that goes on changes.
func again(w int) func(s *api.Sys, id int) {
	return func(s *api.Sys, id int) { top(s, id).Pc, top(s, id).R[2], top(s, id).R[3] = 1, w, w }
}

// told is what a step that ends changes.
func told(v int) func(s *api.Sys, id int) {
	return func(s *api.Sys, id int) { ends(s, id, v, api.OK) }
}

// bad is a change that is Bad, too.
func bad(do func(s *api.Sys, id int)) func(s *api.Sys, id int) {
	return func(s *api.Sys, id int) {
		do(s, id)
		s.M.Bad = true
	}
}

// firstLooks are OProt's step 0.
func firstLooks() []change {
	return []change{
		{"a word", holds(4, word(5, 3, 0)), prot(0, at, 0, 8, 9), looks(word(5, 3, 0))},
		{"a marked word", holds(4, word(0, 1, 1)), prot(0, at, 1, 8, 9), looks(3)},
		{"the same word as R2 had", holds(4, word(5, 3, 0)), prot(0, at, 2, word(5, 3, 0), 9), looks(word(5, 3, 0))},
		{"the greatest word", holds(200, word(lastTag, mostNo, 1)), prot(0, at, 2, 8, 9), looks(1<<61 - 1)},
		{"an index of no node", holds(1, word(0, 2, 0)), prot(0, at, 2, 8, 9), looks(4)},
		{"a word that isn't packed", holds(4, -1<<61+word(7, 2, 0)), prot(0, at, 0, 8, 9), looks(-1<<61 + word(7, 2, 0))},
		{"the least one but of index 0", holds(4, math.MinInt+2), prot(0, at, 0, 8, 9), looks(math.MinInt + 2)},
		{"index 0", holds(4, word(6, 0, 0)), prot(0, at, 0, 8, 9), told(word(6, 0, 0))},
		{"index 0, marked", holds(4, word(0, 0, 1)), prot(0, at, 1, 8, 9), told(1)},
		{"index 0, of the last tag", holds(4, word(lastTag, 0, 1)), prot(0, at, 2, 8, 9), told(lastTag<<21 + 1)},
		{"the word 0", holds(1, 0), prot(0, at, 2, word(1, 1, 0), 9), told(0)},
		{"index 0, not packed", holds(4, -1<<61), prot(0, at, 2, 8, 9), told(-1 << 61)},
		{"index 0, the least word", holds(4, math.MinInt+1), prot(0, at, 2, 8, 9), told(math.MinInt + 1)},
	}
}

// stores are OProt's step 1; the word isn't looked at.
func stores() []change {
	return []change{
		{"slot 0", holds(4, word(9, 4, 0)), prot(1, at, 0, word(5, 3, 0), 9), names(0, 3)},
		{"slot 1", holds(4, word(9, 4, 0)), prot(1, at, 1, word(0, 1, 1), 9), names(1, 1)},
		{"slot 2", holds(200, word(5, 200, 0)), prot(1, at, 2, word(lastTag, 200, 1), 9), names(2, 200)},
		{"the greatest index", holds(4, 0), prot(1, at, 2, word(lastTag, mostNo, 1), 9), names(2, mostNo)},
		{"index 0", holds(4, 6), prot(1, at, 2, word(5, 0, 1), 9), names(2, 0)},
		{"a word that isn't packed", holds(4, 6), prot(1, at, 0, -1, 9), names(0, mostNo)},
		{"a word below 0", holds(4, 6), prot(1, at, 0, -1<<61+word(7, 2, 0), 9), names(0, 2)},
		{"a word beyond the packed ones", holds(4, 6), prot(1, at, 0, 1<<61+word(7, 2, 0), 9), names(0, 2)},
	}
}

// secondLooks are OProt's step 2; the slot isn't looked at.
func secondLooks() []change {
	return []change{
		{"the same", holds(4, word(5, 3, 0)), prot(2, at, 0, word(5, 3, 0), 9), told(word(5, 3, 0))},
		{"the same, marked", holds(4, word(5, 3, 1)), prot(2, at, 1, word(5, 3, 1), 9), told(word(5, 3, 1))},
		{"the same, not packed", holds(4, -2), prot(2, at, 1, -2, 9), told(-2)},
		{"the same, of index 0", holds(4, word(5, 0, 1)), prot(2, at, 1, word(5, 0, 1), 9), told(word(5, 0, 1))},
		{"another index", holds(4, word(5, 2, 0)), prot(2, at, 0, word(5, 3, 0), 9), again(word(5, 2, 0))},
		{"another tag", holds(4, word(6, 3, 0)), prot(2, at, 1, word(5, 3, 0), 9), again(word(6, 3, 0))},
		{"another mark", holds(4, word(5, 3, 1)), prot(2, at, 2, word(5, 3, 0), 9), again(word(5, 3, 1))},
		{"the same but for 2^61", holds(4, word(5, 3, 0)), prot(2, at, 2, word(5, 3, 0)-1<<61, 9), again(word(5, 3, 0))},
		{"another one, and R3 had R2", holds(4, word(5, 2, 0)), prot(2, at, 0, word(5, 3, 0), word(5, 3, 0)), again(word(5, 2, 0))},
		{"another one, of no node", holds(4, word(5, 5, 0)), prot(2, at, 0, word(5, 3, 0), 9), again(word(5, 5, 0))},
		{"index 0", holds(4, word(6, 0, 0)), prot(2, at, 0, word(5, 3, 0), 9), told(word(6, 0, 0))},
		{"index 0, of the same tag", holds(4, word(5, 0, 1)), prot(2, at, 1, word(5, 3, 1), 9), told(word(5, 0, 1))},
		{"the word 0", holds(4, 0), prot(2, at, 2, word(5, 3, 0), 9), told(0)},
		{"index 0, not packed", holds(4, -1<<61+1), prot(2, at, 2, word(5, 3, 0), 9), told(-1<<61 + 1)},
	}
}

// oddPlaces are looks at an R0 that is no place, or that a node's kind guards: nodes 1 and 4 are Free, 2 is Live, 3 is Retired.
func oddPlaces() []change {
	var all []change
	m := holds(4, 6)
	for _, r0 := range []int{144, 145, 200, 1 << 40, 1 << 61, math.MaxInt, -1, -100, -1 << 61, math.MinInt} {
		all = append(all,
			change{"first look at no place", m, prot(0, r0, 1, 8, 9), bad(told(0))},
			change{"second look at no place", m, prot(2, r0, 1, 8, 9), bad(told(0))})
	}
	for node := 1; node <= 4; node++ {
		for cell := range 4 {
			place := 124 + 4*node + cell
			guard := func(do func(s *api.Sys, id int)) func(s *api.Sys, id int) {
				if cell > 0 && (node == 1 || node == 4) {
					return bad(do)
				}
				return do
			}
			w := 7001 + 3*place
			all = append(all,
				change{"first look at a cell", m, prot(0, place, 1, 8, 9), guard(looks(w))},
				change{"second look at a cell", m, prot(2, place, 1, 8, 9), guard(again(w))},
				change{"second look at a cell, the same", m, prot(2, place, 1, w, 9), guard(told(w))})
		}
	}
	for _, place := range []int{0, 7, 32, 127} {
		w := 7001 + 3*place
		all = append(all,
			change{"first look at a root", m, prot(0, place, 1, 8, 9), looks(w)},
			change{"second look at a root", m, prot(2, place, 1, w, 9), told(w)})
	}
	return all
}

// oddSlots are stores of node 3 with an R1 that is none of 0 to 2: by it another core's slot, a root, a cell of a node of each kind, and no place are reckoned.
func oddSlots() []change {
	var all []change
	m := holds(4, 6)
	add := func(name string, r1 int, where func(id int) int) {
		all = append(all, change{name, m, prot(1, at, r1, word(5, 3, 0), 9), func(s *api.Sys, id int) {
			place := where(id)
			if place >= 0 && place < len(s.M.W) {
				s.M.W[place] = 3
			} else {
				s.M.Bad = true
			}
			if node := (place - 124) / 4; place >= 128 && place < 144 && place%4 != 0 && (node == 1 || node == 4) {
				s.M.Bad = true
			}
			top(s, id).Pc = 2
		}})
	}
	for r1 := -40; r1 <= 150; r1++ {
		add("near", r1, func(id int) int { return 8 + 3*id + r1 })
	}
	nowhere := func(int) int { return -1 }
	for _, r1 := range []int{1 << 20, 1 << 40, 1 << 61, -1 << 61, -1000, math.MinInt, math.MaxInt, 1 << 62} {
		add("far", r1, nowhere)
	}
	return all
}

// clears are OClear's steps.
func clears() []change {
	var all []change
	for _, r := range [][8]int{{}, {at, 1, 6, 6}, {-1, 7, 1 << 61, -1 << 61}} {
		for slot := range 2 {
			all = append(all, change{"slot 0 or 1", holds(4, 6), api.Frame{Op: api.OClear, Pc: slot, R: r}, func(s *api.Sys, id int) {
				s.M.W[slotAt(id, slot)] = 0
				top(s, id).Pc = slot + 1
			}})
		}
		all = append(all, change{"the last one", holds(4, 6), api.Frame{Op: api.OClear, Pc: 2, R: r}, func(s *api.Sys, id int) {
			s.M.W[slotAt(id, 2)] = 0
			ends(s, id, 0, api.OK)
		}})
	}
	return all
}

// checkChanges does each of the steps at each of a system's cores, with the arena Bad already, and not.
func checkChanges(t *testing.T, all []change) {
	t.Helper()
	for _, c := range all {
		f := c.f
		f.S = []int{31, 32}
		for r := 4; r < 8; r++ {
			f.R[r] = -40 - r
		}
		for _, cores := range []int{1, 3, 8} {
			for id := range cores {
				for _, bad := range []bool{false, true} {
					s := over(lay(c.m, cores), id, f)
					s.M.Bad = bad
					want := with(s, func(s *api.Sys) { c.do(s, id) })
					if got := haz.Step(s, id); !same(got, want) {
						t.Errorf("%s: core %d of %d, %v: slots %v, Bad %t, core %v; want %v, %t, %v",
							c.name, id, cores, f, got.M.W[8:32], got.M.Bad, got.C[id], want.M.W[8:32], want.M.Bad, want.C[id])
					}
				}
			}
		}
	}
}

// TestFirstLook: P5.2, OProt's step 0.
func TestFirstLook(t *testing.T) { checkChanges(t, firstLooks()) }

// TestStore: P5.2, OProt's step 1.
func TestStore(t *testing.T) { checkChanges(t, stores()) }

// TestSecondLook: P5.2, OProt's step 2.
func TestSecondLook(t *testing.T) { checkChanges(t, secondLooks()) }

// TestOddPlace: P5.2, an R0 that is no place, or a guarded one.
func TestOddPlace(t *testing.T) { checkChanges(t, oddPlaces()) }

// TestOddSlot: P5.2, an R1 that is no slot's number.
func TestOddSlot(t *testing.T) { checkChanges(t, oddSlots()) }

// TestClear: P5.2, each step of OClear.
func TestClear(t *testing.T) { checkChanges(t, clears()) }

// TestSlotIsWord: P5.2, a word that is the slot itself: what the store lays there is what the second look sees.
func TestSlotIsWord(t *testing.T) {
	for id := range 3 {
		s := lay(holds(4, 0), 3)
		s.M.W[slotAt(id, 1)] = word(5, 3, 1)
		s = core.Call(s, id, api.OProt, slotAt(id, 1), 1)
		s = haz.Step(haz.Step(haz.Step(s, id), id), id)
		if f, is := core.Top(s, id); !is || f.Pc != 1 || f.R[2] != 3 || f.R[3] != 3 || s.M.W[slotAt(id, 1)] != 3 {
			t.Errorf("core %d: %v, %t, %v", id, f, is, s.M.W[8:17])
		}
		s = haz.Step(haz.Step(s, id), id)
		if f, _ := core.Top(s, id); f.Op == api.OProt || s.C[id].V != 1 || s.C[id].E != api.OK || s.M.W[slotAt(id, 1)] != 1 {
			t.Errorf("core %d: %v, %v", id, f, s.M.W[8:17])
		}
	}
}

// TestStepBelow: P5.2, a frame that has none below it ends, too, and so does one over 39 others.
func TestStepBelow(t *testing.T) {
	for _, below := range []int{0, 1, 39} {
		for _, f := range []api.Frame{prot(2, at, 0, 6, 0), {Op: api.OClear, Pc: 2, R: [8]int{at}}} {
			s, _ := core.New(2, 3)
			s.M = holds(3, 6)
			s.C[1].F = make([]api.Frame, below)
			s = over(s, 1, f)
			want := with(s, func(s *api.Sys) {
				if f.Op == api.OProt {
					ends(s, 1, 6, api.OK)
					return
				}
				s.M.W[slotAt(1, 2)] = 0
				ends(s, 1, 0, api.OK)
			})
			if got := haz.Step(s, 1); !same(got, want) {
				t.Errorf("op %d over %d frames: %v", f.Op, below, got.C)
			}
		}
	}
}

// unchanged: is a step s?
func unchanged(t *testing.T, name string, s api.Sys, id int) {
	t.Helper()
	if got := haz.Step(s, id); !same(got, s) {
		t.Errorf("%s: core %d: %v, slots %v", name, id, got.C, got.M.W[8:32])
	}
}

// TestStepOtherPc: P5.2, nothing happens, where Pc is none of the steps.
func TestStepOtherPc(t *testing.T) {
	for _, op := range []int{api.OProt, api.OClear} {
		for _, pc := range []int{3, 4, 5, 7, 100, 1 << 40, math.MaxInt, -1, -2, -3, math.MinInt} {
			for id := range 3 {
				s := over(lay(holds(4, 6), 3), id, api.Frame{Op: op, Pc: pc, R: [8]int{at, 1, 6, 6}})
				unchanged(t, "another Pc", s, id)
			}
		}
	}
}

// TestStepOtherOp: P5.2, a top that is another op, also over one of these.
func TestStepOtherOp(t *testing.T) {
	for op := -3; op <= 40; op++ {
		if op == api.OProt || op == api.OClear {
			continue
		}
		for pc := range 3 {
			s := over(lay(holds(4, 6), 2), 0, prot(0, at, 1))
			s = over(s, 0, api.Frame{Op: op, Pc: pc, R: [8]int{at, 1, 6, 6}})
			unchanged(t, "another op", s, 0)
		}
	}
}

// TestStepNoCore: P5.2, a core that there isn't.
func TestStepNoCore(t *testing.T) {
	for _, cores := range []int{1, 2, 8} {
		for _, op := range []int{api.OProt, api.OClear} {
			s := lay(holds(4, 6), cores)
			for id := range cores {
				s = over(s, id, api.Frame{Op: op, R: [8]int{at}})
			}
			for _, id := range []int{-1, -2, -cores, cores, cores + 1, 8, 100, math.MaxInt, math.MinInt} {
				if id < 0 || id >= cores {
					unchanged(t, "no core", s, id)
				}
			}
		}
	}
}

// TestStepNoFrame: P5.2, a core without a frame, beside others with theirs.
func TestStepNoFrame(t *testing.T) {
	s, _ := core.New(3, 2)
	s.M = holds(2, 6)
	s = over(over(s, 0, prot(0, at)), 2, api.Frame{Op: api.OClear})
	unchanged(t, "no frame", s, 1)
}

// slotted is a system of so many cores and nodes whose places from Slot0 on hold what is told.
func slotted(cores, nodes int, slots ...int) api.Sys {
	s, _ := core.New(cores, nodes)
	copy(s.M.W[8:32], slots)
	return s
}

// TestNamed: P5.3, slots of all cores, that name any node, none, and several the same one.
func TestNamed(t *testing.T) {
	for i, c := range []struct {
		cores, nodes int
		slots        []int
		named        []int
	}{
		{1, 1, nil, nil},
		{1, 1, []int{1}, []int{1}},
		{1, 1, []int{0, 0, 1}, []int{1}},
		{1, 4, []int{4, 2, 1}, []int{1, 2, 4}},
		{1, 4, []int{3, 3, 3}, []int{3}},
		{2, 4, []int{0, 0, 1, 4, 0, 1}, []int{1, 4}},
		{3, 200, []int{200, 1, 0, 0, 200, 0, 100, 0, 199}, []int{1, 100, 199, 200}},
		{8, 30, []int{1, 2, 3, 4, 5, 6, 7, 8, 9, 10, 11, 12, 13, 14, 15, 16, 17, 18, 19, 20, 21, 22, 23, 24}, []int{1, 2, 3, 4, 5, 6, 7, 8, 9, 10, 11, 12, 13, 14, 15, 16, 17, 18, 19, 20, 21, 22, 23, 24}},
		// slots of no core of the system
		{1, 4, []int{1, 0, 0, 2, 3, 4}, []int{1}},
		{2, 4, []int{0, 0, 1, 0, 2, 0, 3}, []int{1, 2}},
		{7, 4, []int{0, 0, 0, 0, 0, 0, 0, 0, 0, 0, 0, 0, 0, 0, 0, 0, 0, 0, 0, 0, 1, 2, 3, 4}, []int{1}},
		{8, 4, []int{0, 0, 0, 0, 0, 0, 0, 0, 0, 0, 0, 0, 0, 0, 0, 0, 0, 0, 0, 0, 0, 0, 0, 4}, []int{4}},
		// numbers that are no node's
		{1, 4, []int{5, 6, 201}, nil},
		{1, 4, []int{-1, -4, -5}, nil},
		{1, 4, []int{math.MinInt, math.MaxInt, 1<<61 + 1}, nil},
		{1, 200, []int{201, mostNo, 1 << 32}, nil},
		{1, 4, []int{-1, 2, 5}, []int{2}},
		{1, 4, []int{1<<32 + 1, 1<<20 + 1, 1<<62 + 1}, nil},
	} {
		want := make([]bool, 1+c.nodes)
		for _, node := range c.named {
			want[node] = true
		}
		if got := haz.Named(slotted(c.cores, c.nodes, c.slots...)); !slices.Equal(got, want) {
			t.Errorf("%d: Named %v; want %v", i, got, want)
		}
	}
}

// TestNamedEach: P5.3, each slot of systems of each size, each alone.
func TestNamedEach(t *testing.T) {
	for cores := 1; cores <= 8; cores++ {
		for place := range 24 {
			s := slotted(cores, 3)
			s.M.W[8+place] = 2
			if got := haz.Named(s); !slices.Equal(got, []bool{false, false, place < 3*cores, false}) {
				t.Errorf("of %d cores, place %d: Named %v", cores, 8+place, got)
			}
		}
	}
}

// TestNamedBeside: P5.3, the words beside the slots, what nodes are, whether the arena is Bad, and what cores have retired aren't asked.
func TestNamedBeside(t *testing.T) {
	s := lay(holds(4, 6), 8)
	s.M.Bad = true
	for place := range s.M.W {
		s.M.W[place] = 1 + place%4
	}
	for place := 8; place < 32; place++ {
		s.M.W[place] = 0
	}
	s.M.W[13] = 3
	if got := haz.Named(s); !slices.Equal(got, []bool{false, false, false, true, false}) {
		t.Errorf("Named %v", got)
	}
}

// TestChanged: P5.4, the word changes between the store and the second look, so many times: to another node, to the same node by another tag, and back to what it was.
func TestChanged(t *testing.T) {
	for id := range 8 {
		for slot := range 3 {
			for times := range 6 {
				s, _ := core.New(8, 4)
				w := word(0, 1, 0)
				s.M = mem.Store(s.M, at, w)
				s = core.Call(s, id, api.OProt, at, slot)
				s = haz.Step(haz.Step(s, id), id)
				for i := range times {
					w = pack.Next(w, 1+(i/2)%4, 0)
					s.M = mem.Store(s.M, at, w)
					s = haz.Step(s, id)
					if f, is := core.Top(s, id); !is || f.Pc != 1 || f.R != [8]int{at, slot, w, w} {
						t.Fatalf("core %d, slot %d, change %d: %v, %t", id, slot, i, f, is)
					}
					s = haz.Step(s, id)
				}
				s = haz.Step(s, id)
				want := with(s, func(s *api.Sys) {
					clear(s.M.W[8:32])
					s.M.W[slotAt(id, slot)] = w >> 1 & mostNo
				})
				if len(s.C[id].F) != 0 || s.C[id].V != w || s.C[id].E != api.OK || !same(s, want) || s.M.Bad {
					t.Errorf("core %d, slot %d, %d changes: %v, slots %v", id, slot, times, s.C[id], s.M.W[8:32])
				}
			}
		}
	}
}

// TestCameBack: P5.4, a word that changes, and is the same again ahead of the second look, is named: that it stood there behind the store is all that is asked.
func TestCameBack(t *testing.T) {
	s, _ := core.New(1, 4)
	s.M = mem.Store(s.M, at, 6)
	s = core.Call(s, 0, api.OProt, at, 0)
	s = haz.Step(haz.Step(s, 0), 0)
	s.M = mem.Store(mem.Store(s.M, at, 4), at, 6)
	s = haz.Step(s, 0)
	if len(s.C[0].F) != 0 || s.C[0].V != 6 || s.M.W[8] != 3 {
		t.Errorf("%v, slots %v", s.C[0], s.M.W[8:11])
	}
}

// TestGoneBehind: P5.4, the word tells none at the second look: it ends with that, and the slot still names what it did.
func TestGoneBehind(t *testing.T) {
	for _, gone := range []int{0, 1, word(7, 0, 0), word(lastTag, 0, 1)} {
		s, _ := core.New(3, 4)
		s.M = mem.Store(s.M, at, word(6, 4, 0))
		s = core.Call(s, 2, api.OProt, at, 2)
		s = haz.Step(haz.Step(s, 2), 2)
		s.M = mem.Store(s.M, at, gone)
		s = haz.Step(s, 2)
		if len(s.C[2].F) != 0 || s.C[2].V != gone || s.C[2].E != api.OK || s.M.W[16] != 4 {
			t.Errorf("%d: %v, slots %v", gone, s.C[2], s.M.W[8:17])
		}
	}
}

// user is who names what words tell, and clears slots: a system, what each slot must name (-1: it isn't known, since its core is at work on it), and how many ops each core has begun.
type user struct {
	t     *testing.T
	s     api.Sys
	knows [8][3]int
	begun [8]int
}

func newUser(t *testing.T, cores, nodes int) *user {
	s, _ := core.New(cores, nodes)
	s.M = stack.Fill(s.M)
	s.M = mem.Store(s.M, at, word(0, 1, 0))
	return &user{t: t, s: s}
}

// split is another user in the same state.
func (u *user) split() *user {
	c := *u
	return &c
}

// begin calls a core's next op: it names by each slot, what the word or the free list's head tells, then clears them.
func (u *user) begin(id int) {
	n := u.begun[id] % 7
	u.begun[id]++
	if n == 3 || n == 6 {
		u.knows[id] = [3]int{-1, -1, -1}
		u.s = core.Call(u.s, id, api.OClear)
		return
	}
	slot := (n + id) % 3
	u.knows[id][slot] = -1
	u.s = core.Call(u.s, id, api.OProt, []int{at, api.Head}[n/4], slot)
}

// step is a step of a core; where it has no op, it begins one.
func (u *user) step(id int) {
	u.t.Helper()
	if len(u.s.C[id].F) == 0 {
		u.begin(id)
	}
	before := u.s
	u.s = haz.Step(u.s, id)
	u.others(before, id)
	if len(u.s.C[id].F) == 0 {
		u.ended(before, id)
	}
	u.check()
}

// others: has the step changed nothing but its core, and one word at most, that is a slot of its own?
func (u *user) others(before api.Sys, id int) {
	u.t.Helper()
	changed := 0
	for place, w := range u.s.M.W {
		if w == before.M.W[place] {
			continue
		}
		changed++
		if place < slotAt(id, 0) || place > slotAt(id, 2) {
			u.t.Fatalf("core %d changed the word at %d", id, place)
		}
	}
	if changed > 1 || u.s.M.Bad || len(u.s.L) != 0 || !slices.Equal(u.s.M.G, before.M.G) {
		u.t.Fatalf("core %d changed %d words, Bad %t, events %v", id, changed, u.s.M.Bad, u.s.L)
	}
	for other := range u.s.C {
		if other != id && !reflect.DeepEqual(u.s.C[other], before.C[other]) {
			u.t.Fatalf("core %d changed core %d", id, other)
		}
	}
}

// ended holds what an op told, and the slots, against what stood ahead of its last step.
func (u *user) ended(before api.Sys, id int) {
	u.t.Helper()
	f := before.C[id].F[0]
	v, e := u.s.C[id].V, u.s.C[id].E
	if f.Op == api.OClear {
		if v != 0 || e != api.OK {
			u.t.Fatalf("clear: %d, %d", v, e)
		}
		u.knows[id] = [3]int{}
		return
	}
	place, slot := f.R[0], f.R[1]
	if v != before.M.W[place] || e != api.OK {
		u.t.Fatalf("core %d ended with %d, %d; at the place stood %d", id, v, e, before.M.W[place])
	}
	if index := v >> 1 & mostNo; index != 0 {
		if before.M.W[slotAt(id, slot)] != index {
			u.t.Fatalf("core %d: its slot named %d ahead of the last look at %d", id, before.M.W[slotAt(id, slot)], index)
		}
		u.knows[id][slot] = index
		return
	}
	u.knows[id][slot] = u.s.M.W[slotAt(id, slot)]
}

// check holds the slots, and what is named, against what is known.
func (u *user) check() {
	u.t.Helper()
	named := make([]bool, len(u.s.M.G))
	for id := range u.s.C {
		for slot, knows := range u.knows[id] {
			is := u.s.M.W[slotAt(id, slot)]
			if knows >= 0 && is != knows {
				u.t.Fatalf("core %d, slot %d names %d; want %d", id, slot, is, knows)
			}
			named[is] = named[is] || is != 0
		}
	}
	if got := haz.Named(u.s); !slices.Equal(got, named) {
		u.t.Fatalf("Named %v; want %v", got, named)
	}
}

// change is another word at a place, of the next tag.
func (u *user) change(place, index int) {
	u.s.M = mem.Store(u.s.M, place, pack.Next(u.s.M.W[place], index, 0))
	u.check()
}

// TestOrders: P5.4, two cores, and one who changes the word to the same node, to another one, and to none, all orders of so many steps.
func TestOrders(t *testing.T) {
	var all func(u *user, left int)
	all = func(u *user, left int) {
		if left == 0 {
			return
		}
		for id := range 2 {
			a := u.split()
			a.step(id)
			all(a, left-1)
		}
		is := u.s.M.W[at] >> 1 & mostNo
		for _, index := range []int{is, 1 + is%2, 0} {
			a := u.split()
			a.change(at, index)
			all(a, left-1)
		}
	}
	all(newUser(t, 2, 2), 7)
}

// TestOneAndOne: P5.4, a core, and one who changes the word, all orders of more steps, so that the word changes several times ahead of a second look.
func TestOneAndOne(t *testing.T) {
	var all func(u *user, left int)
	all = func(u *user, left int) {
		if left == 0 {
			return
		}
		a := u.split()
		a.step(0)
		all(a, left-1)
		b := u.split()
		b.change(at, (b.s.M.W[at]>>1+1)%3)
		all(b, left-1)
	}
	all(newUser(t, 1, 3), 14)
}

// TestManyOrders: P5.4, one to eight cores, few nodes and many, long series of steps of which each picks, by a rule, a core, or what the word or the head tells from then on.
func TestManyOrders(t *testing.T) {
	rule := uint64(1)
	pick := func(n int) int {
		rule = rule*6364136223846793005 + 1442695040888963407
		return int(rule>>33) % n
	}
	for _, cores := range []int{1, 2, 3, 5, 8} {
		for _, nodes := range []int{1, 2, 3, 7, 20} {
			for _, often := range []int{0, 1, 3} {
				u := newUser(t, cores, nodes)
				for range 400 {
					for range 1 + pick(3) {
						u.step(pick(cores))
					}
					if pick(4) < often {
						u.change([]int{at, api.Head}[pick(2)], pick(1+nodes))
					}
				}
			}
		}
	}
}

// beginBeside calls an op at a core that has none: cores 0 and 1 name what the head tells, the others pop, and push what they have.
func beginBeside(s api.Sys, id, slot, has int) api.Sys {
	if id < 2 {
		return core.Call(s, id, api.OProt, api.Head, slot)
	}
	if has != 0 {
		return core.Call(s, id, api.OPush, has)
	}
	return core.Call(s, id, api.OPop)
}

// TestBesidePops: P5.4, cores name what the free list's head tells while others pop and push: nothing is Bad, and what they name is what was free first.
func TestBesidePops(t *testing.T) {
	s, _ := core.New(4, 5)
	s.M = stack.Fill(s.M)
	var has, ended [4]int
	for i := range 4000 {
		id := (i*i + i/7) % 4
		if len(s.C[id].F) == 0 {
			s = beginBeside(s, id, i%3, has[id])
		}
		before, f := s, s.C[id].F[0]
		if haz.Own(f.Op) {
			s = haz.Step(s, id)
		} else {
			s = stack.Step(s, id)
		}
		if s.M.Bad {
			t.Fatal("Bad")
		}
		if len(s.C[id].F) > 0 {
			continue
		}
		ended[id]++
		switch f.Op {
		case api.OPop:
			has[id] = s.C[id].V
		case api.OPush:
			has[id] = 0
		case api.OProt:
			free, _ := stack.Walk(before.M)
			if s.C[id].V != before.M.W[0] || s.M.W[slotAt(id, f.R[1])] != free[0] || !haz.Named(s)[free[0]] {
				t.Fatalf("step %d, core %d: %d, slots %v, free %v", i, id, s.C[id].V, s.M.W[8:20], free)
			}
		}
	}
	if slices.Min(ended[:]) < 50 {
		t.Errorf("ended: %v", ended)
	}
}

// TestAlone: P5.4 and T3, a core that alone goes on ends OProt within four steps behind whatever others did, of which two are of a look that fails, and OClear in three.
func TestAlone(t *testing.T) {
	for mine := range 3 {
		for _, index := range []int{0, 1, 2} {
			u := newUser(t, 2, 2)
			for range mine {
				u.step(0)
			}
			u.change(at, index)
			steps := 0
			for ; steps == 0 || len(u.s.C[0].F) > 0 && steps < 9; steps++ {
				u.step(0)
			}
			if steps > 4 {
				t.Errorf("mine %d, index %d: %d steps", mine, index, steps)
			}
		}
	}
	s := core.Call(slotted(1, 2, 1, 2, 1), 0, api.OClear)
	for left := 2; left >= 0; left-- {
		s = haz.Step(s, 0)
		if (len(s.C[0].F) == 0) != (left == 0) {
			t.Errorf("clear, %d steps left: %v", left, s.C[0].F)
		}
	}
}

// allChanges are the steps that are told one by one.
func allChanges() []change {
	return slices.Concat(firstLooks(), stores(), secondLooks(), oddPlaces(), oddSlots(), clears())
}

// TestUntouched: R3, the system, its arena, cores, frames and events aren't written into, also where lists have room behind their ends, and what was answered stays as it was behind later calls.
func TestUntouched(t *testing.T) {
	for _, c := range allChanges() {
		f := c.f
		f.S = []int{31, 32}
		s := over(lay(c.m, 3), 1, f)
		s.L = append(s.L, api.Ev{Core: 7})[:len(s.L)]
		s.M.W = append(s.M.W, 77)[:len(s.M.W)]
		kept := clone(s)
		a := haz.Step(s, 1)
		first := clone(a)
		b := haz.Step(a, 1)
		second := clone(b)
		haz.Step(haz.Step(b, 1), 1)
		haz.Named(a)
		if !same(s, kept) || !same(a, first) || !same(b, second) {
			t.Errorf("%s: written into", c.name)
		}
		if s.L[:len(s.L)+1][len(s.L)] != (api.Ev{Core: 7}) || s.M.W[:len(s.M.W)+1][len(s.M.W)] != 77 {
			t.Errorf("%s: written behind a list's end", c.name)
		}
	}
}

// TestNamedOwn: R3, Named doesn't write into the system, and what it answers is memory of its own.
func TestNamedOwn(t *testing.T) {
	s := over(lay(holds(4, 6), 2), 0, prot(1, at, 1, 6))
	s.M.W[9] = 2
	kept := clone(s)
	l := haz.Named(s)
	clear(l)
	if again := haz.Named(s); !same(s, kept) || !slices.Equal(again, []bool{false, false, true, false, false}) {
		t.Errorf("written into, or shared: %v", again)
	}
}

// TestOwnMemory: R3, what a step answers shares nothing with what it was given, also where it is the same.
func TestOwnMemory(t *testing.T) {
	s := lay(holds(4, 6), 4)
	for id, f := range []api.Frame{prot(0, at, 1), prot(2, at, 1, 8), {Op: api.OClear}, {Op: api.OEnq}} {
		f.S = []int{4}
		s = over(s, id, f)
	}
	for id := -1; id <= 4; id++ {
		kept := clone(s)
		a := haz.Step(s, id)
		a.M.W[0]++
		a.M.G[1]++
		a.L[0].A++
		for i := range a.C {
			a.C[i].V++
			a.C[i].F[0].Pc++
			a.C[i].F[2].S[0]++
			if len(a.C[i].Ret) > 0 {
				a.C[i].Ret[0]++
			}
		}
		if !same(s, kept) {
			t.Errorf("core %d: shared", id)
		}
	}
}

// TestTwice: R4, the same arguments, the same answers.
func TestTwice(t *testing.T) {
	for _, c := range allChanges() {
		s := over(lay(c.m, 2), 1, c.f)
		if !same(haz.Step(s, 1), haz.Step(s, 1)) || !slices.Equal(haz.Named(s), haz.Named(s)) {
			t.Errorf("%s: two answers", c.name)
		}
	}
}
