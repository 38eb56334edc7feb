package msq_test

import (
	"math"
	"reflect"
	"slices"
	"testing"

	"hazel/alloc"
	"hazel/api"
	"hazel/core"
	"hazel/mem"
	"hazel/msq"
	"hazel/stack"
)

// far are numbers that no node and no queue has, up to the farthest ones.
var far = []int{-1, 8, 201, 1 << 20, 1<<32 + 5, 1 << 61, -1 << 61, 1 << 62, math.MaxInt, math.MinInt}

// cell is the place of a node's cell, written out.
func cell(node, c int) int { return 124 + 4*node + c }

// packed is a word, written out.
func packed(tag, index, mark int) int { return tag<<21 + index<<1 + mark }

// index is a word's index, written out.
func index(w int) int { return w >> 1 & (1<<20 - 1) }

// newer is the word behind one, of that index, written out.
func newer(w, index int) int { return (w>>21+1)&(1<<40-1)<<21 + index&(1<<20-1)<<1 }

// numbers are n of them, no two the same.
func numbers(n, from int) []int {
	l := []int{}
	for i := range n {
		l = append(l, from+3*i)
	}
	return l
}

// kinds is an arena of these nodes' kinds; all its words are anything but 0.
func kinds(of ...int) api.Mem {
	return api.Mem{W: numbers(128+4*len(of), 7001), G: append([]int{0}, of...)}
}

// six is an arena of two nodes of each kind: 1 and 4 are Free, 2 and 5 Live, 3 and 6 Retired.
func six() api.Mem { return kinds(0, 1, 2, 0, 1, 2) }

// lay is a system on an arena, with so many cores, each with a frame below, retired nodes and numbers, and with events.
func lay(m api.Mem, cores int) api.Sys {
	s := api.Sys{M: m}
	for id := range cores {
		below := api.Frame{Op: api.OSend, Pc: 3 + id, R: [8]int{id, 1, 2, 3, 4, 5, 6, 7}, S: numbers(2, 100+id)}
		s.C = append(s.C, api.Core{F: []api.Frame{below}, V: 50 + id, E: api.Errno(1 + id%6), X: [3]int{60 + id, 70 + id, 80 + id}, Ret: numbers(id, 90+id)})
		s.L = append(s.L, api.Ev{Core: id, Kind: 1 + id, A: 20 + id, B: 30 + id, V: 40 + id})
	}
	return clone(s)
}

// clone is the same system in other memory; in it no list is nil, so that such without elements are alike (R3).
func clone(s api.Sys) api.Sys {
	c := api.Sys{C: []api.Core{}, L: append([]api.Ev{}, s.L...)}
	c.M = api.Mem{W: append([]int{}, s.M.W...), G: append([]int{}, s.M.G...), Bad: s.M.Bad}
	for _, x := range s.C {
		frames := []api.Frame{}
		for _, f := range x.F {
			f.S = append([]int{}, f.S...)
			frames = append(frames, f)
		}
		x.F, x.Ret = frames, append([]int{}, x.Ret...)
		c.C = append(c.C, x)
	}
	return c
}

// same: are two systems the same, all of it, held against each other without the program?
func same(a, b api.Sys) bool { return reflect.DeepEqual(clone(a), clone(b)) }

// over is the system with a frame over those of a core.
func over(s api.Sys, id int, f api.Frame) api.Sys {
	s = clone(s)
	s.C[id].F = append(s.C[id].F, f)
	return s
}

// frame is one of an op at a step; its other registers, and S, are anything but 0.
func frame(op, pc int, r ...int) api.Frame {
	f := api.Frame{Op: op, Pc: pc, R: [8]int{-40, -41, -42, -43, -44, -45, -46, -47}, S: []int{9, 5}}
	copy(f.R[:], r)
	return f
}

// hand is a step as it must be, done by hand: a system of the test's own, that it writes into.
type hand struct {
	s  *api.Sys
	c  *api.Core
	f  *api.Frame
	id int
}

func handOf(s *api.Sys, id int) hand {
	c := &s.C[id]
	return hand{s, c, &c.F[len(c.F)-1], id}
}

// there: is there a place that is touched? Bad, if not, and if it is guarded and its node Free.
func (h hand) there(at int) bool {
	m := &h.s.M
	if at < 0 || at >= len(m.W) {
		m.Bad = true
		return false
	}
	if at >= 128 && at%4 != api.Link && m.G[(at-124)/4] == api.Free {
		m.Bad = true
	}
	return true
}

func (h hand) load(at int) int {
	if !h.there(at) {
		return 0
	}
	return h.s.M.W[at]
}

func (h hand) store(at, v int) {
	if h.there(at) {
		h.s.M.W[at] = v
	}
}

func (h hand) swap(at, old, index int) bool {
	if !h.there(at) || h.s.M.W[at] != old {
		return false
	}
	h.s.M.W[at] = newer(old, index)
	return true
}

func (h hand) log(kind, v int) {
	h.s.L = append(h.s.L, api.Ev{Core: h.id, Kind: kind, A: h.f.R[0], V: v})
}

func (h hand) end(v int, e api.Errno) { h.c.F, h.c.V, h.c.E = h.c.F[:len(h.c.F)-1], v, e }

func (h hand) call(op int, r ...int) {
	f := api.Frame{Op: op}
	copy(f.R[:], r)
	if h.f.Pc++; len(h.c.F) < 40 {
		h.c.F = append(h.c.F, f)
	}
}

// enq is a step of OEnq as chapter 8 tells it.
func (h hand) enq() {
	f := h.f
	r := &f.R
	tail, slot := 33+2*r[0], 8+3*h.id
	switch f.Pc {
	case 0:
		h.call(api.OAlloc)
		return
	case 1:
		if h.c.E != api.OK {
			h.end(0, h.c.E)
			return
		}
		r[2] = h.c.V
	case 2:
		h.store(cell(r[2], api.Val), r[1])
	case 3:
		r[4] = h.load(cell(r[2], api.Next))
	case 4:
		h.store(cell(r[2], api.Next), newer(r[4], 0))
	case 5:
		h.call(api.OProt, tail, 0)
		return
	case 6:
		r[3] = h.c.V
	case 7:
		r[4] = h.load(cell(index(r[3]), api.Next))
		if index(r[4]) == 0 {
			f.Pc = 8
		}
	case 8:
		h.swap(tail, r[3], index(r[4]))
		f.Pc = 4
	case 9:
		if h.swap(cell(index(r[3]), api.Next), r[4], r[2]) {
			h.log(api.EEnq, r[1])
		} else {
			f.Pc = 4
		}
	case 10:
		h.swap(tail, r[3], r[2])
	case 11:
		h.store(slot, 0)
		h.end(0, api.OK)
		return
	}
	f.Pc++
}

// deq is a step of ODeq as chapter 8 tells it.
func (h hand) deq() {
	f := h.f
	r := &f.R
	head, tail, slot := 32+2*r[0], 33+2*r[0], 8+3*h.id
	switch f.Pc {
	case 0:
		h.call(api.OProt, head, 0)
		return
	case 1:
		r[2] = h.c.V
	case 2:
		r[3] = h.load(tail)
	case 3:
		r[4] = h.load(cell(index(r[2]), api.Next))
		if index(r[4]) == 0 {
			h.log(api.EEmpty, 0)
			r[5], r[6], f.Pc = 0, 3, 8
		} else if index(r[2]) != index(r[3]) {
			f.Pc = 4
		}
	case 4:
		h.swap(tail, r[3], index(r[4]))
		f.Pc = -1
	case 5:
		h.store(slot+1, index(r[4]))
	case 6:
		if h.load(head) != r[2] {
			f.Pc = -1
		}
	case 7:
		r[5] = h.load(cell(index(r[4]), api.Val))
	case 8:
		if h.swap(head, r[2], index(r[4])) {
			h.log(api.EDeq, r[5])
			r[6] = 0
			h.call(api.ORetire, index(r[2]))
			return
		}
		f.Pc = -1
	case 9:
		h.store(slot, 0)
	case 10:
		h.store(slot+1, 0)
		h.end(r[5], api.Errno(r[6]))
		return
	}
	f.Pc++
}

// checkStep holds a step of a core against the one that is done by hand.
func checkStep(t *testing.T, s api.Sys, id int) {
	t.Helper()
	want := clone(s)
	h := handOf(&want, id)
	f := *h.f
	if f.Op == api.OEnq {
		h.enq()
	} else {
		h.deq()
	}
	if got := msq.Step(s, id); !same(got, want) {
		t.Errorf("op %d, step %d, core %d of %d, R %v, Bad %t: %v, %v, Bad %t; want %v, %v, Bad %t",
			f.Op, f.Pc, id, len(s.C), f.R, s.M.Bad, got.C[id], got.L, got.M.Bad, want.C[id], want.L, want.M.Bad)
	}
}

// seen are words of nodes of each kind and of none, beside the arena's end and at the edges of tags and indices, with marks, and some that aren't packed.
var seen = []int{
	packed(0, 2, 0), packed(7, 5, 1), packed(3, 3, 0), packed(1, 1, 0), packed(1<<40-1, 4, 0), packed(0, 6, 0), packed(1<<40-1, 6, 1),
	0, 1, packed(9, 0, 0), packed(1<<40-1, 0, 1), packed(2, 7, 0), packed(2, 1<<20-1, 1), -1, -2, 1 << 61, -1 << 61, math.MaxInt, math.MinInt,
}

// spots are systems of so many cores, with a step ahead at one of them, at a queue; the queue's head and tail, and the Next of the head's and of the tail's node, are words that were seen, or others.
func spots(cores, id, q int, f api.Frame, head, tail, behind int) []api.Sys {
	s := over(lay(six(), cores), id, f)
	s.M.Bad = (id+q)%2 == 1
	other := clone(s)
	for _, w := range []int{head, tail} {
		if at := cell(index(w), api.Next); at < len(s.M.W) {
			s.M.W[at] = behind
		}
	}
	s.M.W[32+2*q], s.M.W[33+2*q] = head, tail
	return []api.Sys{s, other}
}

// TestEnqSteps: P8.1, each step of OEnq, of each queue, at words of all kinds that it may have seen, where they still stand, and where they don't.
func TestEnqSteps(t *testing.T) {
	values := append([]int{0, 5, 1 << 40}, far...)
	nodes := append([]int{0, 1, 2, 3, 4, 5, 6, 7, 1<<20 + 2}, far...)
	for pc := range 12 {
		for i, tail := range seen {
			for k, behind := range seen {
				for n := (i + k) % 3; n < len(nodes); n += 3 {
					cores := 1 + (i+k+n)%8
					id, q := (i+2*k)%cores, (i+n)%8
					f := frame(api.OEnq, pc, q, values[(i+k)%len(values)], nodes[n], tail, behind)
					for _, s := range spots(cores, id, q, f, seen[n%len(seen)], tail, behind) {
						checkStep(t, s, id)
					}
				}
			}
		}
	}
}

// TestDeqSteps: P8.1, each step of ODeq, as OEnq's.
func TestDeqSteps(t *testing.T) {
	for pc := range 11 {
		for i, head := range seen {
			for k, tail := range seen {
				for n := (i + k) % 3; n < len(seen); n += 3 {
					behind, cores := seen[n], 1+(i+k+n)%8
					id, q := (i+2*k)%cores, (i+n)%8
					f := frame(api.ODeq, pc, q, -5, head, tail, behind, far[n%len(far)], (i+k)%8)
					for _, s := range spots(cores, id, q, f, head, tail, behind) {
						checkStep(t, s, id)
					}
				}
			}
		}
	}
}

// TestTold: P8.1, the steps behind a call, whatever V and E it told, and whatever X and Ret are.
func TestTold(t *testing.T) {
	for _, e := range []api.Errno{0, 1, 2, 3, 4, 5, 6, 7, 99, -1, math.MaxInt, math.MinInt} {
		for _, v := range append([]int{0, 1, 2, 3, packed(5, 2, 0)}, far...) {
			for _, f := range []api.Frame{frame(api.OEnq, 1, 3, 9), frame(api.OEnq, 6, 3, 9), frame(api.ODeq, 1, 3), frame(api.ODeq, 9, 3), frame(api.ODeq, 10, 3, 0, 0, 0, 0, v, int(e))} {
				s := over(lay(six(), 3), 2, f)
				s.C[2].V, s.C[2].E = v, e
				checkStep(t, s, 2)
			}
		}
	}
}

// TestBothWays: P8.1, where a step goes, by what it sees: these are told one by one.
func TestBothWays(t *testing.T) {
	two, five := packed(4, 2, 0), packed(6, 5, 0)
	for _, c := range []struct {
		name           string
		f              api.Frame
		head, tail     int
		next2, next5   int
		pc, events     int
		tailIs, headIs int
	}{
		{"a node behind the tail", frame(api.OEnq, 7, 1, 9, 5, two), two, two, five, 0, 8, 0, two, two},
		{"none behind the tail", frame(api.OEnq, 7, 1, 9, 5, two), two, two, packed(3, 0, 1), 0, 9, 0, two, two},
		{"the tail helped", frame(api.OEnq, 8, 1, 9, 6, two, five), two, two, five, 0, 5, 0, packed(5, 5, 0), two},
		{"the tail was helped", frame(api.OEnq, 8, 1, 9, 6, two, five), two, five, five, 0, 5, 0, five, two},
		{"linked", frame(api.OEnq, 9, 1, 9, 5, two, packed(3, 0, 0)), two, two, packed(3, 0, 0), 0, 10, 1, two, two},
		{"another tag", frame(api.OEnq, 9, 1, 9, 5, two, packed(3, 0, 0)), two, two, packed(4, 0, 0), 0, 5, 0, two, two},
		{"empty", frame(api.ODeq, 3, 1, 0, two, two), two, two, packed(3, 0, 0), 0, 9, 1, two, two},
		{"empty, another tail", frame(api.ODeq, 3, 1, 0, two, five), two, two, packed(3, 0, 0), 0, 9, 1, two, two},
		{"the tail is behind", frame(api.ODeq, 3, 1, 0, two, packed(9, 2, 1)), two, two, five, 0, 4, 0, two, two},
		{"the tail is ahead", frame(api.ODeq, 3, 1, 0, two, five), two, five, five, 0, 5, 0, five, two},
		{"the tail moved", frame(api.ODeq, 4, 1, 0, two, two, five), two, two, five, 0, 0, 0, packed(5, 5, 0), two},
		{"the head is the same", frame(api.ODeq, 6, 1, 0, two, five, five), two, five, five, 0, 7, 0, five, two},
		{"the head has another tag", frame(api.ODeq, 6, 1, 0, packed(3, 2, 0), five, five), two, five, five, 0, 0, 0, five, two},
		{"the head moved", frame(api.ODeq, 8, 1, 0, two, five, five), two, five, five, 0, 9, 1, five, packed(5, 5, 0)},
		{"the head was moved", frame(api.ODeq, 8, 1, 0, packed(3, 2, 0), five, five), two, five, five, 0, 0, 0, five, two},
	} {
		s := over(lay(six(), 2), 1, c.f)
		s.M.W[34], s.M.W[35], s.M.W[cell(2, 1)], s.M.W[cell(5, 1)] = c.head, c.tail, c.next2, c.next5
		got := msq.Step(s, 1)
		f := got.C[1].F[1]
		if f.Pc != c.pc || len(got.L)-2 != c.events || got.M.W[35] != c.tailIs || got.M.W[34] != c.headIs || got.M.Bad {
			t.Errorf("%s: %v, events %v, head %d, tail %d, Bad %t", c.name, f, got.L, got.M.W[34], got.M.W[35], got.M.Bad)
		}
		checkStep(t, s, 1)
	}
}

// TestDeep: P8.1, where a core has 40 frames nothing is called, and the op goes on at its next step; one frame less, and it is.
func TestDeep(t *testing.T) {
	two := packed(4, 2, 0)
	for _, frames := range []int{1, 2, 39, 40} {
		for _, f := range []api.Frame{frame(api.OEnq, 0, 2, 9), frame(api.OEnq, 5, 2, 9), frame(api.ODeq, 0, 2), frame(api.ODeq, 8, 2, 0, two, two, packed(1, 5, 0))} {
			s := lay(six(), 2)
			s.C[1].F = make([]api.Frame, frames-1)
			s = over(s, 1, f)
			s.M.W[36] = two
			checkStep(t, s, 1)
			got := msq.Step(s, 1)
			if want := min(frames+1, 40); len(got.C[1].F) != want || got.C[1].F[frames-1].Pc != f.Pc+1 {
				t.Errorf("%d frames, op %d, step %d: %v", frames, f.Op, f.Pc, got.C[1])
			}
		}
	}
}

// unchanged: is a step s?
func unchanged(t *testing.T, name string, s api.Sys, id int) {
	t.Helper()
	if got := msq.Step(s, id); !same(got, s) {
		t.Errorf("%s: core %d: %v", name, id, got.C)
	}
}

// TestOtherQueues: P8.1, ops of other queues than 0 to 7 do nothing, at each of their steps.
func TestOtherQueues(t *testing.T) {
	for _, q := range slices.Concat(far, []int{-2, 9, 10, 32, 1 << 31, 1 << 63 >> 1, math.MinInt + 1}) {
		for pc := range 12 {
			for _, op := range []int{api.OEnq, api.ODeq} {
				for _, e := range []api.Errno{api.OK, api.ErrFull} {
					s := over(lay(six(), 2), 1, frame(op, pc, q, 9, 5, packed(1, 2, 0), packed(1, 5, 0)))
					s.C[1].E = e
					unchanged(t, "another queue", s, 1)
				}
			}
		}
	}
}

// TestOtherPc: P8.1, nothing happens, where Pc is none of the op's steps.
func TestOtherPc(t *testing.T) {
	for _, pc := range []int{-12, -3, -2, -1, 11, 12, 13, 100, 1 << 32, 1<<32 + 1, 1 << 61, math.MaxInt, math.MinInt} {
		for q := range 8 {
			for _, op := range []int{api.OEnq, api.ODeq} {
				if op == api.OEnq && pc == 11 {
					continue
				}
				unchanged(t, "another Pc", over(lay(six(), 3), 1, frame(op, pc, q, 9, 5, packed(1, 2, 0))), 1)
			}
		}
	}
}

// TestOtherOp: P8.1, a top that is another op, also over one of these.
func TestOtherOp(t *testing.T) {
	for op := -3; op <= 40; op++ {
		if op >= 1 && op <= 10 {
			continue
		}
		for pc := range 12 {
			for _, below := range []int{api.OEnq, api.ODeq} {
				s := over(lay(six(), 2), 0, frame(below, pc, 1, 5, 2))
				unchanged(t, "another op", over(s, 0, frame(op, pc, 1, 5, 2)), 0)
			}
		}
	}
}

// TestNoCore: P8.1, a core that there isn't, and one without a frame.
func TestNoCore(t *testing.T) {
	for _, cores := range []int{1, 2, 8} {
		for op := api.OPop; op <= api.ODeq; op++ {
			s := lay(six(), cores)
			for id := range cores {
				s = over(s, id, frame(op, 0, 5))
			}
			for _, id := range []int{-1, -2, -cores, cores, cores + 1, 8, 100, 1 << 32, math.MaxInt, math.MinInt} {
				unchanged(t, "no core", s, id)
			}
			for id := range cores {
				x := clone(s)
				x.C[id] = api.Core{V: 5, Ret: []int{3, 6}}
				unchanged(t, "no frame", x, id)
			}
		}
	}
}

// TestBelow: P8.1, steps of chapter 4's to 7's ops are as these tell: each step, whatever is below.
func TestBelow(t *testing.T) {
	for op := api.OPop; op <= api.ODrop; op++ {
		for pc := -1; pc <= 4; pc++ {
			for _, r := range [][]int{{0, 0}, {2, 1, 4, 4}, {5, 0}, {3, 2, 3 << 1, 3 << 1}, {-1, 300, 1 << 61, -1 << 61}} {
				for _, below := range []int{api.OEnq, api.ODeq} {
					for id := range 3 {
						s := over(over(lay(six(), 3), id, frame(below, 1, 5)), id, frame(op, pc, r...))
						if got, want := msq.Step(s, id), alloc.Step(s, id); !same(got, want) {
							t.Errorf("op %d, step %d, %v: %v; want %v", op, pc, r, got.C[id], want.C[id])
						}
					}
				}
			}
		}
	}
}

// TestOwn: P8.1, the ten ops up to chapter 8's are, and no other number is.
func TestOwn(t *testing.T) {
	for op := -100; op <= 100; op++ {
		if is, want := msq.Own(op), op >= 1 && op <= 10; is != want {
			t.Errorf("Own(%d) = %t", op, is)
		}
	}
	for _, op := range []int{math.MinInt, math.MaxInt, 1<<32 + 9, 1<<32 + 10, -1 << 40, 1 << 61} {
		if msq.Own(op) {
			t.Errorf("Own(%d)", op)
		}
	}
}

// TestSpot: P8.1, the queues' places, and those of other numbers, which go round at 2^64 (R5).
func TestSpot(t *testing.T) {
	for q, want := range map[int]int{
		0: 32, 1: 34, 2: 36, 3: 38, 4: 40, 5: 42, 6: 44, 7: 46, 8: 48, 9: 50, -1: 30, -16: 0, -17: -2, 1 << 40: 1<<41 + 32,
		math.MinInt: 32, math.MaxInt: 30, 1 << 62: math.MinInt + 32, -1 << 62: math.MinInt + 32, 1<<62 - 17: math.MaxInt - 1, 1<<62 - 16: math.MinInt,
	} {
		if got := msq.Spot(q); got != want {
			t.Errorf("Spot(%d) = %d, want %d", q, got, want)
		}
	}
}

// start is a new system, of counts that there may be.
func start(t *testing.T, cores, nodes int) api.Sys {
	t.Helper()
	s, e := alloc.Start(cores, nodes)
	if e != api.OK {
		t.Fatalf("Start(%d, %d): %d", cores, nodes, e)
	}
	return s
}

// made is a system with a new queue.
func made(t *testing.T, s api.Sys, q int) api.Sys {
	t.Helper()
	s, e := msq.Make(s, q)
	if e != api.OK {
		t.Fatalf("Make of %d: %d", q, e)
	}
	return s
}

// run does an op of a core alone to its end.
func run(t *testing.T, s api.Sys, id, op int, args ...int) api.Sys {
	t.Helper()
	frames := len(s.C[id].F)
	s = core.Call(s, id, op, args...)
	for range 5000 {
		if len(s.C[id].F) <= frames {
			return s
		}
		s = msq.Step(s, id)
	}
	t.Fatalf("core %d doesn't end: %v", id, s.C[id])
	return s
}

// told is run, with what it must tell.
func told(t *testing.T, s api.Sys, v int, e api.Errno, id, op int, args ...int) api.Sys {
	t.Helper()
	s = run(t, s, id, op, args...)
	if c := s.C[id]; c.V != v || c.E != e || s.M.Bad {
		t.Fatalf("core %d, op %d of %v: %d, %d, Bad %t; want %d, %d", id, op, args, c.V, c.E, s.M.Bad, v, e)
	}
	return s
}

// checkItems checks what is in a queue.
func checkItems(t *testing.T, s api.Sys, q int, want ...int) {
	t.Helper()
	if got, is := msq.Items(s, q); !is || !slices.Equal(got, want) {
		t.Errorf("queue %d: %v, %t; want %v", q, got, is, want)
	}
}

// checkNone checks that a queue can't be told.
func checkNone(t *testing.T, name string, s api.Sys, q int) {
	t.Helper()
	if got, is := msq.Items(s, q); is || len(got) != 0 {
		t.Errorf("%s: queue %d: %v, %t", name, q, got, is)
	}
}

// TestMake: P8.2, each queue, of each count of nodes up to some, and of most: the words that are changed, the node that is turned, and nothing else.
func TestMake(t *testing.T) {
	for _, nodes := range []int{1, 2, 3, 8, 200} {
		for q := range 8 {
			s := start(t, 2, nodes)
			want := clone(s)
			want.M.W[0] = packed(1, 2, 0)
			if nodes == 1 {
				want.M.W[0] = packed(1, 0, 0)
			}
			want.M.W[129], want.M.G[1] = packed(1, 0, 0), api.Live
			want.M.W[32+2*q], want.M.W[33+2*q] = packed(0, 1, 0), packed(0, 1, 0)
			got, e := msq.Make(s, q)
			if e != api.OK || !same(got, want) {
				t.Errorf("%d nodes, queue %d: %d, %v; want %v", nodes, q, e, got, want)
			}
			checkItems(t, got, q)
		}
	}
}

// TestMakeLaid: P8.2, of a list in any order, with a tag and a mark, and a Next that was used: they are the next words of what was there; the queue's words are of tag and mark 0, whatever they were. Cores and events stay.
func TestMakeLaid(t *testing.T) {
	for _, c := range []struct{ head, next, newHead, newNext int }{
		{packed(7, 4, 1), packed(5, 3, 1), packed(8, 1, 0), packed(6, 0, 0)},
		{packed(1<<40-1, 4, 0), packed(1<<40-1, 0, 0), packed(0, 1, 0), packed(0, 0, 0)},
		{packed(0, 4, 0), -1, packed(1, 1, 0), packed(0, 0, 0)},
		{packed(0, 4, 0) - 1<<61, math.MaxInt, packed(1, 1, 0), packed(0, 0, 0)},
	} {
		for q := range 8 {
			s := lay(six(), 3)
			s.M.W[0], s.M.W[cell(4, 0)], s.M.W[cell(1, 0)], s.M.W[cell(4, 1)] = c.head, 1, 0, c.next
			s.M.Bad = q == 3
			want := clone(s)
			want.M.W[0], want.M.W[cell(4, 1)], want.M.G[4] = c.newHead, c.newNext, api.Live
			want.M.W[32+2*q], want.M.W[33+2*q] = packed(0, 4, 0), packed(0, 4, 0)
			if got, e := msq.Make(s, q); e != api.OK || !same(got, want) {
				t.Errorf("head %d, queue %d: %d, %v; want %v", c.head, q, e, got, want)
			}
		}
	}
}

// TestMakeNotFree: P8.2, where the list tells first a node that isn't Free it is Bad to turn it Live; the rest is as ever.
func TestMakeNotFree(t *testing.T) {
	for _, node := range []int{2, 3, 5, 6} {
		s := lay(six(), 1)
		s.M.W[0], s.M.W[cell(node, 0)] = packed(3, node, 0), 0
		want := clone(s)
		want.M.W[0], want.M.Bad = packed(4, 0, 0), true
		want.M.W[cell(node, 1)] = newer(s.M.W[cell(node, 1)], 0)
		want.M.W[36], want.M.W[37] = packed(0, node, 0), packed(0, node, 0)
		if got, e := msq.Make(s, 2); e != api.OK || !same(got, want) {
			t.Errorf("node %d: %d, %v; want %v", node, e, got, want)
		}
	}
}

// TestMakeNot: P8.2, ErrArg of other numbers than 0 to 7, also where no node is free; ErrFull, if there is no list, or it is empty. The system stays as it was.
func TestMakeNot(t *testing.T) {
	fine := start(t, 2, 3)
	empty := lay(six(), 2)
	empty.M.W[0] = packed(5, 0, 1)
	loop := lay(six(), 2)
	loop.M.W[0], loop.M.W[cell(1, 0)], loop.M.W[cell(4, 0)] = packed(5, 1, 0), 4, 1
	out := lay(six(), 2)
	out.M.W[0], out.M.W[cell(1, 0)] = packed(5, 1, 0), 7
	beyond := lay(six(), 2)
	beyond.M.W[0] = packed(5, 7, 0)
	below := lay(six(), 2)
	below.M.W[0], below.M.W[cell(1, 0)] = packed(5, 1, 0), -1
	for i, s := range []api.Sys{fine, empty, loop, out, beyond, below} {
		for _, q := range append([]int{-8, 9, 32}, far...) {
			if got, e := msq.Make(s, q); e != api.ErrArg || !same(got, s) {
				t.Errorf("%d: queue %d: %d, %v", i, q, e, got)
			}
		}
		for q := range 8 {
			if got, e := msq.Make(s, q); i > 0 && (e != api.ErrFull || !same(got, s)) {
				t.Errorf("%d: queue %d: %d, %v", i, q, e, got)
			}
		}
	}
}

// TestMakeAll: P8.2, all queues of one system, each with a node of its own, and one of them made anew; of one node fewer the last one is ErrFull.
func TestMakeAll(t *testing.T) {
	s := start(t, 1, 9)
	for q := range 8 {
		s = made(t, s, 7-q)
		if s.M.W[46-2*q] != packed(0, q+1, 0) || s.M.W[47-2*q] != packed(0, q+1, 0) || s.M.W[0] != packed(q+1, q+2, 0) {
			t.Errorf("queue %d: %v", 7-q, s.M.W[:48])
		}
	}
	s = told(t, s, 0, api.OK, 0, api.OEnq, 3, 50)
	free, is := stack.Walk(s.M)
	if got, e := msq.Make(s, 3); !is || len(free) != 0 || e != api.ErrFull || !same(got, s) {
		t.Errorf("%v, %d, %v", free, e, got)
	}
	s = told(t, s, 50, api.OK, 0, api.ODeq, 3)
	s = run(t, s, 0, api.OScan)
	s = made(t, s, 4)
	for q := range 8 {
		checkItems(t, s, q)
	}
	if s.M.W[40] != packed(0, 5, 0) || s.M.W[41] != packed(0, 5, 0) || s.M.Bad {
		t.Errorf("%v", s.M.W[:48])
	}
}

// TestItems: P8.3, queues that are laid word by word: from the head's node on, in order, whatever the nodes are, tags and marks, the tail, and what is Bad; nothing is touched.
func TestItems(t *testing.T) {
	for q := range 8 {
		s := lay(six(), 2)
		lay := func(head int, behind ...int) {
			s.M.W[32+2*q] = head
			node := index(head)
			for _, w := range behind {
				s.M.W[cell(node, 1)] = w
				node = index(w)
			}
			s.M.W[cell(node, 1)] = packed(q, 0, 1)
		}
		for node := 1; node <= 6; node++ {
			s.M.W[cell(node, 3)] = []int{0, 40, -1, math.MaxInt, 40, math.MinInt, 0}[node]
		}
		lay(packed(4, 5, 0))
		checkItems(t, s, q)
		lay(packed(4, 6, 1), packed(0, 1, 0))
		checkItems(t, s, q, 40)
		lay(packed(0, 2, 0), packed(9, 6, 1), packed(1<<40-1, 4, 0))
		checkItems(t, s, q, 0, 40)
		lay(packed(0, 1, 0)-1<<61, packed(3, 5, 0)-1<<62, packed(0, 3, 0), packed(2, 2, 0), packed(0, 4, 0), packed(0, 6, 0))
		checkItems(t, s, q, math.MinInt, math.MaxInt, -1, 40, 0)
		kept := clone(s)
		s.M.Bad = true
		checkItems(t, s, q, math.MinInt, math.MaxInt, -1, 40, 0)
		s.M.Bad = false
		for _, n := range append([]int{-2, 9, 16}, far...) {
			checkNone(t, "another queue", s, n)
		}
		if !same(s, kept) {
			t.Errorf("queue %d: touched", q)
		}
	}
}

// TestItemsNot: P8.3, none, where the head tells no node, or one that the arena hasn't; where a Next tells such a one, or a node that came already, the head's too.
func TestItemsNot(t *testing.T) {
	for q := range 8 {
		for _, head := range []int{0, 1, packed(3, 0, 1), packed(0, 7, 0), packed(0, 201, 0), packed(1<<40-1, 1<<20-1, 1), -1} {
			s := lay(six(), 2)
			for node := 1; node <= 6; node++ {
				s.M.W[cell(node, 1)] = 0
			}
			s.M.W[125] = 0
			s.M.W[32+2*q], s.M.W[33+2*q] = head, packed(0, 2, 0)
			checkNone(t, "head", s, q)
		}
		for _, last := range []int{packed(1, 2, 0), packed(1, 3, 1), packed(8, 5, 0), packed(0, 7, 0), packed(0, 128, 0), packed(0, 1<<20-1, 0), -1, math.MaxInt} {
			s := lay(six(), 2)
			s.M.W[32+2*q] = packed(0, 2, 0)
			s.M.W[cell(2, 1)], s.M.W[cell(3, 1)], s.M.W[cell(5, 1)] = packed(0, 3, 0), packed(0, 5, 0), last
			checkNone(t, "a Next", s, q)
			s.M.W[cell(3, 1)] = 0
			checkItems(t, s, q, s.M.W[cell(3, 3)])
			s.M.W[cell(2, 1)] = packed(1, 2, 0)
			checkNone(t, "the head's own", s, q)
		}
	}
	for q := range 8 {
		checkNone(t, "not made", start(t, 1, 5), q)
	}
}

// TestExample: P8.3 and P8.4, 1, 2 put in; 1 comes out; then 2, and nothing behind that.
func TestExample(t *testing.T) {
	s := made(t, start(t, 1, 5), 0)
	s = told(t, s, 0, api.OK, 0, api.OEnq, 0, 1)
	s = told(t, s, 0, api.OK, 0, api.OEnq, 0, 2)
	checkItems(t, s, 0, 1, 2)
	s = told(t, s, 1, api.OK, 0, api.ODeq, 0)
	checkItems(t, s, 0, 2)
	s = told(t, s, 2, api.OK, 0, api.ODeq, 0)
	s = told(t, s, 0, api.ErrNone, 0, api.ODeq, 0)
	checkItems(t, s, 0)
	want := []api.Ev{{Kind: api.EEnq, V: 1}, {Kind: api.EEnq, V: 2}, {Kind: api.EDeq, V: 1}, {Kind: api.EDeq, V: 2}, {Kind: api.EEmpty}}
	if !slices.Equal(s.L, want) || !slices.Equal(s.C[0].Ret, []int{1, 2}) {
		t.Errorf("%v, %v", s.L, s.C[0].Ret)
	}
}

// TestFull: P8.4, as many as nodes are free go in, with values up to the greatest; one more is ErrFull, and changes no queue; what comes out makes room, once it is scanned.
func TestFull(t *testing.T) {
	for _, nodes := range []int{1, 2, 3, 20, 200} {
		s := made(t, start(t, 2, nodes), 5)
		var want []int
		for i := 1; i < nodes; i++ {
			v := i * (1<<61 - 7)
			s = told(t, s, 0, api.OK, i%2, api.OEnq, 5, v)
			want = append(want, v)
		}
		events := len(s.L)
		s = told(t, s, 0, api.ErrFull, 1, api.OEnq, 5, 9)
		checkItems(t, s, 5, want...)
		if !slices.Equal(s.L[events:], []api.Ev{{Core: 1, Kind: api.ENoMem}}) {
			t.Errorf("%d nodes: events %v", nodes, s.L[events:])
		}
		for _, v := range want {
			s = told(t, s, v, api.OK, 1, api.ODeq, 5)
		}
		s = told(t, s, 0, api.ErrNone, 0, api.ODeq, 5)
		if nodes > 1 {
			s = told(t, s, 0, api.OK, 1, api.OEnq, 5, 9)
			checkItems(t, s, 5, 9)
		}
	}
}

// TestQueuesApart: P8.4, all queues of one system: what is put into one comes out of that alone.
func TestQueuesApart(t *testing.T) {
	s := start(t, 3, 60)
	for q := range 8 {
		s = made(t, s, q)
	}
	for i := range 40 {
		s = told(t, s, 0, api.OK, i%3, api.OEnq, i*3%8, i)
	}
	for q := range 8 {
		checkItems(t, s, q, q*3%8, q*3%8+8, q*3%8+16, q*3%8+24, q*3%8+32)
	}
	for i := range 40 {
		s = told(t, s, i, api.OK, (i+1)%3, api.ODeq, i*3%8)
	}
	for q := range 8 {
		checkItems(t, s, q)
	}
}

// TestUnmade: P8.1, of a queue that wasn't made the head tells no node: its steps do what they tell, at the words that are there.
func TestUnmade(t *testing.T) {
	s := told(t, start(t, 1, 3), 0, api.ErrNone, 0, api.ODeq, 2)
	if !slices.Equal(s.L, []api.Ev{{Kind: api.EEmpty, A: 2}}) {
		t.Errorf("%v", s.L)
	}
	checkNone(t, "not made", s, 2)
}

// TestSlots: P8.1, whose slots are stored in: the core's own first two, and these name nothing behind an op.
func TestSlots(t *testing.T) {
	for id := range 8 {
		s := made(t, start(t, 8, 30), 0)
		for at := 8; at < 32; at++ {
			s.M = mem.Store(s.M, at, 1000+at)
		}
		s = told(t, s, 0, api.OK, id, api.OEnq, 0, 6)
		s = told(t, s, 6, api.OK, id, api.ODeq, 0)
		for at := 8; at < 32; at++ {
			want := 1000 + at
			if at == 8+3*id || at == 9+3*id {
				want = 0
			}
			if s.M.W[at] != want {
				t.Errorf("core %d: the word at %d is %d", id, at, s.M.W[at])
			}
		}
	}
}
