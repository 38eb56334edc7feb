package event_test

import (
	"math"
	"reflect"
	"slices"
	"testing"

	"hazel/alloc"
	"hazel/api"
	"hazel/core"
	"hazel/event"
	"hazel/table"
)

// eventAt is the place of event 0's word, written out.
const eventAt = 80

// far are numbers that no event has, up to the farthest ones.
var far = []int{-1, -2, -16, 16, 17, 32, 80, 256, 1 << 20, 1<<32 + 5, 1 << 61, -1 << 61, 1 << 62, math.MaxInt, math.MinInt}

// packed is a word, written out.
func packed(tag, index, mark int) int { return tag<<21 + index<<1 + mark }

// index is a word's index.
func index(w int) int { return w >> 1 & (1<<20 - 1) }

// newer is the word behind one, of that index and mark, written out.
func newer(w, index, mark int) int { return (w>>21+1)&(1<<40-1)<<21 + index<<1 + mark }

// cell is the place of a node's cell, written out.
func cell(node, c int) int { return 124 + 4*node + c }

// numbers are n of them, no two the same.
func numbers(n, from int) []int {
	l := []int{}
	for i := range n {
		l = append(l, from+3*i)
	}
	return l
}

// six is an arena of two nodes of each kind: 1 and 4 are Free, 2 and 5 Live, 3 and 6 Retired; all its words are anything but 0.
func six() api.Mem {
	return api.Mem{W: numbers(128+4*6, 7001), G: []int{0, 0, 1, 2, 0, 1, 2}}
}

// lay is a system on an arena, with so many cores, each with a frame below, retired nodes and numbers, and with events.
func lay(m api.Mem, cores int) api.Sys {
	s := api.Sys{M: m}
	for id := range cores {
		below := api.Frame{Op: api.OSend, Pc: 3 + id, R: [8]int{id, 1, 2, 3, 4, 5, 6, 7}, S: numbers(2, 100+id)}
		s.C = append(s.C, api.Core{F: []api.Frame{below}, V: 50 + id, E: api.Errno(1 + id%6), X: [3]int{60 + id, 70 + id, 80 + id}, Ret: numbers(id, 90+id)})
		s.L = append(s.L, api.Ev{Core: id, Kind: 1 + id, A: 20 + id, B: 30 + id, V: 40 + id})
	}
	return clone(s)
}

// clone is the same system in other memory; in it no list is nil, so that such without elements are alike (R3).
func clone(s api.Sys) api.Sys {
	c := api.Sys{C: []api.Core{}, L: append([]api.Ev{}, s.L...)}
	c.M = api.Mem{W: append([]int{}, s.M.W...), G: append([]int{}, s.M.G...), Bad: s.M.Bad}
	for _, x := range s.C {
		frames := []api.Frame{}
		for _, f := range x.F {
			f.S = append([]int{}, f.S...)
			frames = append(frames, f)
		}
		x.F, x.Ret = frames, append([]int{}, x.Ret...)
		c.C = append(c.C, x)
	}
	return c
}

// same: are two systems the same, all of it, held against each other without the program?
func same(a, b api.Sys) bool { return reflect.DeepEqual(clone(a), clone(b)) }

// over is the system with a frame over those of a core.
func over(s api.Sys, id int, f api.Frame) api.Sys {
	s = clone(s)
	s.C[id].F = append(s.C[id].F, f)
	return s
}

// frame is one of an op at a step; its other registers, and S, are anything but 0.
func frame(op, pc int, r ...int) api.Frame {
	f := api.Frame{Op: op, Pc: pc, R: [8]int{-40, -41, -42, -43, -44, -45, -46, -47}, S: []int{9, 5}}
	copy(f.R[:], r)
	return f
}

// hand is a step as it must be, done by hand: a system of the test's own, that it writes into.
type hand struct {
	s  *api.Sys
	id int
	c  *api.Core
	f  *api.Frame
}

func handOf(s *api.Sys, id int) hand {
	c := &s.C[id]
	return hand{s, id, c, &c.F[len(c.F)-1]}
}

// ends tells what took effect, and ends the op.
func (h hand) ends(kind, v int) {
	h.s.L = append(h.s.L, api.Ev{Core: h.id, Kind: kind, A: h.f.R[0], V: v})
	h.c.F, h.c.V, h.c.E = h.c.F[:len(h.c.F)-1], v, api.OK
}

// does is a step of OSet, OReset or OTest as chapter 12 tells it.
func (h hand) does() {
	f, r := h.f, &h.f.R
	if r[0] < 0 || r[0] > 15 || f.Pc < 0 || f.Pc > 1 {
		return
	}
	w := &h.s.M.W[eventAt+r[0]]
	switch {
	case f.Pc == 0 && f.Op == api.OTest && index(*w) == 0:
		h.ends(api.ETest, 0)
	case f.Pc == 0 && f.Op == api.OTest && *w&1 == 0:
		h.ends(api.ETest, 1)
	case f.Pc == 0:
		r[1], f.Pc = *w, 1
	case *w != r[1]:
		f.Pc = 0
	case f.Op == api.OSet:
		*w = newer(*w, 1, *w&1)
		h.ends(api.ESet, 0)
	case f.Op == api.OReset:
		*w = newer(*w, 0, *w&1)
		h.ends(api.EReset, 0)
	case f.Op == api.OTest:
		*w = newer(*w, 0, 1)
		h.ends(api.ETest, 1)
	}
}

// checkStep holds a step of a core against the one that is done by hand.
func checkStep(t *testing.T, s api.Sys, id int) {
	t.Helper()
	want := clone(s)
	h := handOf(&want, id)
	f := *h.f
	h.does()
	if got := event.Step(s, id); !same(got, want) {
		t.Errorf("op %d, step %d, core %d of %d, R %v, Bad %t: %v, %v, Bad %t, %v; want %v, %v, Bad %t, %v", f.Op, f.Pc, id, len(s.C), f.R,
			s.M.Bad, got.C[id], got.L, got.M.Bad, got.M.W[eventAt:96], want.C[id], want.L, want.M.Bad, want.M.W[eventAt:96])
	}
}

// ops are those of this layer.
var ops = []int{api.OSet, api.OReset, api.OTest}

// words are those of all kinds: set and not, with a mark and without, of all tags at their edges, and such as aren't packed.
var words = []int{
	0, 1, 2, 3, 4, 5, 10, 11, packed(0, 1<<20-1, 0), packed(0, 1<<20-1, 1), packed(1, 0, 0), packed(1, 0, 1), packed(1, 1, 0), packed(1, 1, 1),
	packed(5, 1<<19, 0), packed(5, 1<<19, 1), packed(1<<40-1, 0, 0), packed(1<<40-1, 0, 1), packed(1<<40-1, 1, 0), packed(1<<40-1, 1, 1), 1<<61 - 1,
	1 << 61, 1<<61 + 1, 1<<61 + 2, 1<<61 + 3, -1, -2, -3, -4, -1 << 61, -1<<61 + 1, -1<<61 + 2, math.MaxInt, math.MaxInt - 1, math.MinInt, math.MinInt + 1, math.MinInt + 3,
}

// at is a system with a step ahead at one of its cores.
func at(n int, f api.Frame) (api.Sys, int) {
	cores := 1 + n%8
	id := n / 8 % cores
	s := over(lay(six(), cores), id, f)
	s.M.Bad = n%3 == 0
	return s, id
}

// TestSteps: P12.1, each step of OSet, OReset and OTest, of each event, with words of all kinds, such as are the one that was seen, and such as aren't.
func TestSteps(t *testing.T) {
	n := 0
	for _, op := range ops {
		for pc := range 2 {
			for e := range 16 {
				for i, word := range words {
					for _, seen := range []int{word, word + 1, word ^ 1, word ^ 1<<21, words[(i+e+1)%len(words)]} {
						n++
						s, id := at(n, frame(op, pc, e, seen))
						s.M.W[eventAt+e] = word
						checkStep(t, s, id)
					}
				}
			}
		}
	}
}

// TestBothWays: P12.1, where a step goes, by what it sees: these are told one by one, with the word behind the step, and the step, or what is told at the end.
func TestBothWays(t *testing.T) {
	for _, c := range []struct {
		name           string
		op, pc         int
		word, seen     int
		to             int
		next           int
		kind, v, saw   int
		events, frames int
	}{
		{"looks, to set", api.OSet, 0, 2097159, -5, 2097159, 1, 0, 50, 2097159, 1, 2},
		{"looks, to reset", api.OReset, 0, 2097158, -5, 2097158, 1, 0, 50, 2097158, 1, 2},
		{"not set", api.OTest, 0, 4 << 21, -5, 4 << 21, 0, api.ETest, 0, 0, 2, 1},
		{"not set, with a mark", api.OTest, 0, 4<<21 + 1, -5, 4<<21 + 1, 0, api.ETest, 0, 0, 2, 1},
		{"set", api.OTest, 0, 4<<21 + 2, -5, 4<<21 + 2, 0, api.ETest, 1, 0, 2, 1},
		{"set to another index", api.OTest, 0, 4<<21 + 1<<20, -5, 4<<21 + 1<<20, 0, api.ETest, 1, 0, 2, 1},
		{"set, with a mark", api.OTest, 0, 4<<21 + 3, -5, 4<<21 + 3, 1, 0, 50, 4<<21 + 3, 1, 2},
		{"sets", api.OSet, 1, 4 << 21, 4 << 21, 5<<21 + 2, 0, api.ESet, 0, 0, 2, 1},
		{"sets, with a mark", api.OSet, 1, 4<<21 + 1, 4<<21 + 1, 5<<21 + 3, 0, api.ESet, 0, 0, 2, 1},
		{"sets again", api.OSet, 1, 4<<21 + 2, 4<<21 + 2, 5<<21 + 2, 0, api.ESet, 0, 0, 2, 1},
		{"sets, behind the last tag", api.OSet, 1, 1<<61 - 1, 1<<61 - 1, 3, 0, api.ESet, 0, 0, 2, 1},
		{"sets what was set by others", api.OSet, 1, 5<<21 + 2, 4<<21 + 2, 5<<21 + 2, 0, 0, 50, 4<<21 + 2, 1, 2},
		{"resets", api.OReset, 1, 4<<21 + 2, 4<<21 + 2, 5 << 21, 0, api.EReset, 0, 0, 2, 1},
		{"resets, with a mark", api.OReset, 1, 4<<21 + 7, 4<<21 + 7, 5<<21 + 1, 0, api.EReset, 0, 0, 2, 1},
		{"resets again", api.OReset, 1, 4 << 21, 4 << 21, 5 << 21, 0, api.EReset, 0, 0, 2, 1},
		{"resets what was set by others", api.OReset, 1, 5<<21 + 2, 4 << 21, 5<<21 + 2, 0, 0, 50, 4 << 21, 1, 2},
		{"takes", api.OTest, 1, 4<<21 + 3, 4<<21 + 3, 5<<21 + 1, 0, api.ETest, 1, 0, 2, 1},
		{"takes what had no mark", api.OTest, 1, 4<<21 + 2, 4<<21 + 2, 5<<21 + 1, 0, api.ETest, 1, 0, 2, 1},
		{"takes what others took", api.OTest, 1, 5<<21 + 1, 4<<21 + 3, 5<<21 + 1, 0, 0, 50, 4<<21 + 3, 1, 2},
		{"takes what others set again", api.OTest, 1, 6<<21 + 3, 4<<21 + 3, 6<<21 + 3, 0, 0, 50, 4<<21 + 3, 1, 2},
	} {
		s := over(lay(six(), 1), 0, frame(c.op, c.pc, 9, c.seen))
		s.M.W[89] = c.word
		got := event.Step(s, 0)
		x := got.C[0]
		f := x.F[len(x.F)-1]
		if got.M.W[89] != c.to || len(x.F) != c.frames || len(got.L) != c.events || x.V != c.v || got.M.Bad {
			t.Errorf("%s: %d, %v, %v", c.name, got.M.W[89], x, got.L)
			continue
		}
		if c.frames == 2 && (f.Op != c.op || f.Pc != c.next || f.R[0] != 9 || f.R[1] != c.saw) {
			t.Errorf("%s: %v", c.name, f)
		}
		if c.frames == 1 && (f.Op != api.OSend || x.E != api.OK || got.L[1] != api.Ev{Kind: c.kind, A: 9, V: c.v}) {
			t.Errorf("%s: %v, %v", c.name, x, got.L)
		}
		checkStep(t, s, 0)
	}
}

// TestNear: P12.1, of each event its own word alone is looked at, and swapped.
func TestNear(t *testing.T) {
	for _, op := range ops {
		for e := range 16 {
			s := over(lay(six(), 1), 0, frame(op, 0, e))
			for place := range s.M.W {
				s.M.W[place] = packed(place, 1, 1)
			}
			got := event.Step(event.Step(s, 0), 0)
			for place, w := range got.M.W {
				want := packed(place, 1, 1)
				if place == 80+e && op == api.OSet {
					want = packed(place+1, 1, 1)
				} else if place == 80+e {
					want = packed(place+1, 0, 1)
				}
				if w != want {
					t.Errorf("op %d of %d: word %d: %d, want %d", op, e, place, w, want)
				}
			}
		}
	}
}

// TestDeep: P12.1, a core of 40 frames does its steps as any other.
func TestDeep(t *testing.T) {
	for _, frames := range []int{1, 2, 39, 40} {
		for _, op := range ops {
			for pc := range 2 {
				s := lay(six(), 2)
				s.C[1].F = make([]api.Frame, frames-1)
				s = over(s, 1, frame(op, pc, 3, packed(2, 1, 1)))
				s.M.W[83] = packed(2, 1, 1)
				checkStep(t, s, 1)
			}
		}
	}
}

// unchanged: is a step s?
func unchanged(t *testing.T, name string, s api.Sys, id int) {
	t.Helper()
	if got := event.Step(s, id); !same(got, s) {
		t.Errorf("%s: core %d: %v, %v", name, id, got.C, got.L)
	}
}

// TestOthers: P12.1, ops of other events than 0 to 15 do nothing, whatever words stand there.
func TestOthers(t *testing.T) {
	for _, op := range ops {
		for pc := range 2 {
			for _, e := range append([]int{18, 40, 47, 71, 72, -80, -79, -48, -81, 1<<32 + 1, 1 << 40}, far...) {
				for _, word := range []int{0, packed(3, 1, 0), packed(3, 1, 1)} {
					s := over(lay(six(), 2), 1, frame(op, pc, e, word))
					for place := range s.M.W {
						s.M.W[place] = word
					}
					unchanged(t, "another one", s, 1)
				}
			}
		}
	}
}

// TestOtherPc: P12.1, nothing happens, where Pc is none of the op's steps.
func TestOtherPc(t *testing.T) {
	for _, op := range ops {
		for _, pc := range []int{-14, -3, -2, -1, 2, 3, 4, 7, 14, 100, 1 << 32, 1<<32 + 1, 1 << 61, math.MaxInt, math.MinInt} {
			for e := range 16 {
				for _, word := range []int{0, packed(3, 1, 0), packed(3, 1, 1)} {
					s := over(lay(six(), 3), 1, frame(op, pc, e, word))
					s.M.W[eventAt+e] = word
					unchanged(t, "another Pc", s, 1)
				}
			}
		}
	}
}

// TestOtherOp: P12.1, a top that is another op, also over one of these.
func TestOtherOp(t *testing.T) {
	for _, op := range append([]int{0, 22, 23, 24, 25, 26, 27, 28, 29, 30, 40, 1<<32 + 19}, far...) {
		if op >= 1 && op <= 21 {
			continue
		}
		for pc := range 14 {
			for _, below := range ops {
				s := over(lay(six(), 2), 0, frame(below, pc%2, 1, 5))
				unchanged(t, "another op", over(s, 0, frame(op, pc, 1, 5)), 0)
			}
		}
	}
}

// TestNoCore: P12.1, a core that there isn't, and one without a frame.
func TestNoCore(t *testing.T) {
	for _, cores := range []int{1, 2, 8} {
		for op := api.OPop; op <= api.OTest; op++ {
			s := lay(six(), cores)
			for id := range cores {
				s = over(s, id, frame(op, 0, 5))
			}
			for _, id := range []int{-1, -2, -cores, cores, cores + 1, 8, 100, 1 << 32, math.MaxInt, math.MinInt} {
				unchanged(t, "no core", s, id)
			}
			for id := range cores {
				x := clone(s)
				x.C[id] = api.Core{V: 5, Ret: []int{3, 6}}
				unchanged(t, "no frame", x, id)
			}
		}
	}
}

// TestBelow: P12.1, steps of chapter 4's to 11's ops are as these tell: each step, whatever is below.
func TestBelow(t *testing.T) {
	for op := api.OPop; op <= api.OCut; op++ {
		for pc := -1; pc <= 14; pc++ {
			for _, r := range [][]int{{0, 0}, {2, 1, 4, 4}, {5, 0, packed(1, 2, 0), packed(1, 2, 0), packed(2, 5, 0)}, {3, 2, 3 << 1, 3 << 1}, {100, 5, 2, 100, packed(1, 2, 0), packed(2, 5, 1), 5}, {-1, 300, 1 << 61, -1 << 61}} {
				for id := range 3 {
					s := over(over(lay(six(), 3), id, frame(ops[id], 1, 1)), id, frame(op, pc, r...))
					if got, want := event.Step(s, id), table.Step(s, id); !same(got, want) {
						t.Errorf("op %d, step %d, %v: %v; want %v", op, pc, r, got.C[id], want.C[id])
					}
				}
			}
		}
	}
}

// TestRunsBelow: P12.1, ops of the layers below are run to their ends by this one's steps.
func TestRunsBelow(t *testing.T) {
	s, _ := alloc.Start(2, 20)
	s, _ = table.Make(s)
	for _, c := range []struct{ v, op, a, b int }{{0, api.OPut, 5, 50}, {50, api.OLook, 5, 0}, {0, api.OSet, 15, 0}, {50, api.OCut, 5, 0}, {2, api.OAlloc, 0, 0}} {
		s = core.Call(s, 1, c.op, c.a, c.b)
		for range 200 {
			s = event.Step(s, 1)
		}
		if x := s.C[1]; len(x.F) > 0 || x.E != api.OK || x.V != c.v && c.op != api.OAlloc || s.M.Bad {
			t.Errorf("op %d: %v, Bad %t", c.op, x, s.M.Bad)
		}
	}
	if s.M.W[95] != packed(1, 1, 0) || len(s.L) != 4 {
		t.Errorf("%v, %v", s.M.W[eventAt:96], s.L)
	}
}

// TestOwn: P12.1, the twenty-one ops up to chapter 12's are, and no other number is.
func TestOwn(t *testing.T) {
	for op := -100; op <= 100; op++ {
		if is, want := event.Own(op), op >= 1 && op <= 21; is != want {
			t.Errorf("Own(%d) = %t", op, is)
		}
	}
	for _, op := range []int{math.MinInt, math.MaxInt, 1<<32 + 19, 1<<32 + 21, -1 << 40, 1 << 61} {
		if event.Own(op) {
			t.Errorf("Own(%d)", op)
		}
	}
}

// TestSpot: P12.1, the spots of all events.
func TestSpot(t *testing.T) {
	for e, want := range []int{80, 81, 82, 83, 84, 85, 86, 87, 88, 89, 90, 91, 92, 93, 94, 95} {
		if at := event.Spot(e); at != want {
			t.Errorf("Spot(%d) = %d, want %d", e, at, want)
		}
	}
}

// TestMake: P12.2, of each event, of both kinds, whatever its word was: that alone is changed. Bad stays, and none is made so.
func TestMake(t *testing.T) {
	for e := range 16 {
		for i, word := range words {
			for mark, self := range []bool{false, true} {
				s := lay(six(), 1+i%8)
				s.M.W[eventAt+e], s.M.Bad = word, i%2 == 0
				want := clone(s)
				want.M.W[eventAt+e] = mark
				if got, err := event.Make(s, e, self); err != api.OK || !same(got, want) {
					t.Errorf("event %d, %t, word %d: %d, %v", e, self, word, err, got.M.W[eventAt:96])
				}
			}
		}
	}
}

// TestMakeNot: P12.2, ErrArg, and s, of other numbers.
func TestMakeNot(t *testing.T) {
	for _, e := range far {
		for _, self := range []bool{false, true} {
			s := lay(six(), 2)
			if got, err := event.Make(s, e, self); err != api.ErrArg || !same(got, s) {
				t.Errorf("event %d: %d, %v", e, err, got)
			}
		}
	}
}

// TestIs: P12.2, what an event's word tells, of words of all kinds; of other numbers no and no, whatever stands there.
func TestIs(t *testing.T) {
	for e := range 16 {
		for _, word := range words {
			s := lay(six(), 1)
			for place := range s.M.W {
				s.M.W[place] = word ^ 3
			}
			s.M.W[eventAt+e] = word
			kept := clone(s)
			if set, self := event.Is(s, e); set != (index(word) != 0) || self != (word&1 == 1) || !same(s, kept) {
				t.Errorf("event %d, word %d: %t, %t", e, word, set, self)
			}
		}
	}
	s := lay(six(), 1)
	for place := range s.M.W {
		s.M.W[place] = packed(4, 1, 1)
	}
	for _, e := range append([]int{18, 40, 47, 71, 72, -80, -79, -48, -81}, far...) {
		if set, self := event.Is(s, e); set || self {
			t.Errorf("event %d: %t, %t", e, set, self)
		}
	}
	for word, want := range map[int][2]bool{0: {}, 1: {false, true}, 2: {true, false}, 3: {true, true}, 4: {true, false}, 1 << 20: {true, false}, 1 << 21: {}} {
		s.M.W[87] = word
		if set, self := event.Is(s, 7); [2]bool{set, self} != want {
			t.Errorf("word %d: %t, %t", word, set, self)
		}
	}
}

// start is a new system with events of which those of odd numbers reset themselves.
func start(t *testing.T, cores int) api.Sys {
	t.Helper()
	s, err := core.New(cores, 1)
	for e := range 16 {
		if err == api.OK {
			s, err = event.Make(s, e, e%2 == 1)
		}
	}
	if err != api.OK || s.M.Bad {
		t.Fatalf("%d, Bad %t", err, s.M.Bad)
	}
	return s
}

// run does an op of a core alone to its end, in two steps at most.
func run(t *testing.T, s api.Sys, id, op, e int) api.Sys {
	t.Helper()
	s = core.Call(s, id, op, e)
	for range 2 {
		s = event.Step(s, id)
	}
	if len(s.C[id].F) > 0 {
		t.Fatalf("core %d doesn't end: %v", id, s.C[id])
	}
	return s
}

// told is run, with what it must tell.
func told(t *testing.T, s api.Sys, v, id, op, e int) api.Sys {
	t.Helper()
	before := len(s.L)
	s = run(t, s, id, op, e)
	want := api.Ev{Core: id, Kind: op - 9, A: e, V: v} // the ops stand in the order of what they do
	if c := s.C[id]; c.V != v || c.E != api.OK || s.M.Bad || !slices.Equal(s.L[before:], []api.Ev{want}) {
		t.Fatalf("core %d, op %d of %d: %d, %d, Bad %t, %v; want %v", id, op, e, c.V, c.E, s.M.Bad, s.L[before:], want)
	}
	return s
}

// TestExample: P12.3, set, test, test of an event that resets itself: 1, 0; of another one 1, 1, up to a reset.
func TestExample(t *testing.T) {
	s := start(t, 2)
	s = told(t, s, 0, 0, api.OTest, 3)
	s = told(t, s, 0, 0, api.OSet, 3)
	s = told(t, s, 1, 1, api.OTest, 3)
	s = told(t, s, 0, 0, api.OTest, 3)
	s = told(t, s, 0, 0, api.OTest, 4)
	s = told(t, s, 0, 1, api.OSet, 4)
	s = told(t, s, 1, 1, api.OTest, 4)
	s = told(t, s, 1, 0, api.OTest, 4)
	s = told(t, s, 0, 1, api.OReset, 4)
	s = told(t, s, 0, 0, api.OTest, 4)
	if s.M.W[83] != packed(2, 0, 1) || s.M.W[84] != packed(2, 0, 0) {
		t.Errorf("%v", s.M.W[eventAt:96])
	}
}

// TestSetTwice: P12.3, set twice, it is told set once; reset ahead of the test, not at all.
func TestSetTwice(t *testing.T) {
	s := start(t, 1)
	s = told(t, s, 0, 0, api.OSet, 3)
	s = told(t, s, 0, 0, api.OSet, 3)
	s = told(t, s, 1, 0, api.OTest, 3)
	s = told(t, s, 0, 0, api.OTest, 3)
	s = told(t, s, 0, 0, api.OSet, 3)
	s = told(t, s, 0, 0, api.OReset, 3)
	s = told(t, s, 0, 0, api.OTest, 3)
	s = told(t, s, 0, 0, api.OSet, 3)
	told(t, s, 1, 0, api.OTest, 3)
}

// TestOneAtATime: P12.3, one core after another sets, resets and tests: each tells what an event of its kind does, and Is tells what is held, of all events.
func TestOneAtATime(t *testing.T) {
	s, holds, pick := start(t, 3), [16]int{}, picker()
	for i := range 3000 {
		e, op, v := pick(16), ops[pick(3)], 0
		if op == api.OTest {
			v = holds[e]
		}
		s = told(t, s, v, i%3, op, e)
		switch {
		case op == api.OSet:
			holds[e] = 1
		case op == api.OReset || e%2 == 1:
			holds[e] = 0
		}
		for e := range 16 {
			if set, self := event.Is(s, e); set != (holds[e] == 1) || self != (e%2 == 1) {
				t.Fatalf("event %d: %t, %t; want %v", e, set, self, holds)
			}
		}
		s.L = nil
	}
}

// TestRaced: P12.3, another core is at the word between a core's two steps: it looks again, and tells what is so then.
func TestRaced(t *testing.T) {
	for _, c := range []struct{ first, op, between, v, word int }{
		{0, api.OSet, api.OSet, 0, packed(2, 1, 1)},
		{0, api.OSet, api.OReset, 0, packed(2, 1, 1)},
		{1, api.OReset, api.OSet, 0, packed(3, 0, 1)},
		{1, api.OReset, api.OTest, 0, packed(3, 0, 1)},
		{1, api.OTest, api.OTest, 0, packed(2, 0, 1)},
		{1, api.OTest, api.OReset, 0, packed(2, 0, 1)},
		{1, api.OTest, api.OSet, 1, packed(3, 0, 1)},
		{1, api.OSet, api.OTest, 0, packed(3, 1, 1)},
	} {
		s := start(t, 2)
		if c.first == 1 {
			s = told(t, s, 0, 1, api.OSet, 5)
		}
		s = event.Step(core.Call(s, 0, c.op, 5), 0)
		s = run(t, s, 1, c.between, 5)
		events := len(s.L)
		s = event.Step(s, 0)
		if f, is := core.Top(s, 0); !is || f.Pc != 0 || len(s.L) != events {
			t.Errorf("%v: %v, %v", c, f, s.L)
		}
		s = event.Step(event.Step(s, 0), 0)
		if x := s.C[0]; len(x.F) > 0 || x.V != c.v || x.E != api.OK || len(s.L) != events+1 || s.M.W[85] != c.word {
			t.Errorf("%v: %v, %v, %d", c, x, s.L, s.M.W[85])
		}
	}
}
