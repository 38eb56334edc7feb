package list_test

import (
	"cmp"
	"maps"
	"math"
	"reflect"
	"slices"
	"testing"

	"hazel/alloc"
	"hazel/api"
	"hazel/core"
	"hazel/list"
	"hazel/mem"
	"hazel/msq"
	"hazel/stack"
)

// spot is a list's place that no other layer uses.
const spot = 100

// far are numbers that no node has, up to the farthest ones.
var far = []int{-1, 201, 1 << 20, 1<<32 + 5, 1 << 61, -1 << 61, 1 << 62, math.MaxInt, math.MinInt}

// cell is the place of a node's cell, written out.
func cell(node, c int) int { return 124 + 4*node + c }

// packed is a word, written out.
func packed(tag, index, mark int) int { return tag<<21 + index<<1 + mark }

// index is a word's index, written out.
func index(w int) int { return w >> 1 & (1<<20 - 1) }

// marked is a word's mark, written out.
func marked(w int) bool { return w&1 == 1 }

// newer is the word behind one, of that index and mark, written out.
func newer(w, index, mark int) int { return (w>>21+1)&(1<<40-1)<<21 + index&(1<<20-1)<<1 + mark }

// numbers are n of them, no two the same.
func numbers(n, from int) []int {
	l := []int{}
	for i := range n {
		l = append(l, from+3*i)
	}
	return l
}

// kinds is an arena of these nodes' kinds; all its words are anything but 0.
func kinds(of ...int) api.Mem {
	return api.Mem{W: numbers(128+4*len(of), 7001), G: append([]int{0}, of...)}
}

// six is an arena of two nodes of each kind: 1 and 4 are Free, 2 and 5 Live, 3 and 6 Retired.
func six() api.Mem { return kinds(0, 1, 2, 0, 1, 2) }

// lay is a system on an arena, with so many cores, each with a frame below, retired nodes and numbers, and with events.
func lay(m api.Mem, cores int) api.Sys {
	s := api.Sys{M: m}
	for id := range cores {
		below := api.Frame{Op: api.OSend, Pc: 3 + id, R: [8]int{id, 1, 2, 3, 4, 5, 6, 7}, S: numbers(2, 100+id)}
		s.C = append(s.C, api.Core{F: []api.Frame{below}, V: 50 + id, E: api.Errno(1 + id%6), X: [3]int{60 + id, 70 + id, 80 + id}, Ret: numbers(id, 90+id)})
		s.L = append(s.L, api.Ev{Core: id, Kind: 1 + id, A: 20 + id, B: 30 + id, V: 40 + id})
	}
	return clone(s)
}

// clone is the same system in other memory; in it no list is nil, so that such without elements are alike (R3).
func clone(s api.Sys) api.Sys {
	c := api.Sys{C: []api.Core{}, L: append([]api.Ev{}, s.L...)}
	c.M = api.Mem{W: append([]int{}, s.M.W...), G: append([]int{}, s.M.G...), Bad: s.M.Bad}
	for _, x := range s.C {
		frames := []api.Frame{}
		for _, f := range x.F {
			f.S = append([]int{}, f.S...)
			frames = append(frames, f)
		}
		x.F, x.Ret = frames, append([]int{}, x.Ret...)
		c.C = append(c.C, x)
	}
	return c
}

// same: are two systems the same, all of it, held against each other without the program?
func same(a, b api.Sys) bool { return reflect.DeepEqual(clone(a), clone(b)) }

// over is the system with a frame over those of a core.
func over(s api.Sys, id int, f api.Frame) api.Sys {
	s = clone(s)
	s.C[id].F = append(s.C[id].F, f)
	return s
}

// frame is one of an op at a step; its other registers, and S, are anything but 0.
func frame(op, pc int, r ...int) api.Frame {
	f := api.Frame{Op: op, Pc: pc, R: [8]int{-40, -41, -42, -43, -44, -45, -46, -47}, S: []int{9, 5}}
	copy(f.R[:], r)
	return f
}

// hand is a step as it must be, done by hand: a system of the test's own, that it writes into.
type hand struct {
	s  *api.Sys
	c  *api.Core
	f  *api.Frame
	id int
}

func handOf(s *api.Sys, id int) hand {
	c := &s.C[id]
	return hand{s, c, &c.F[len(c.F)-1], id}
}

// there: is there a place that is touched? Bad, if not, and if it is guarded and its node Free.
func (h hand) there(at int) bool {
	m := &h.s.M
	if at < 0 || at >= len(m.W) {
		m.Bad = true
		return false
	}
	if at >= 128 && at%4 != api.Link && m.G[(at-124)/4] == api.Free {
		m.Bad = true
	}
	return true
}

func (h hand) load(at int) int {
	if !h.there(at) {
		return 0
	}
	return h.s.M.W[at]
}

func (h hand) store(at, v int) {
	if h.there(at) {
		h.s.M.W[at] = v
	}
}

func (h hand) swap(at, old, index, mark int) bool {
	if !h.there(at) || h.s.M.W[at] != old {
		return false
	}
	h.s.M.W[at] = newer(old, index, mark)
	return true
}

// log tells an event of an odd key, and none of an even one.
func (h hand) log(kind, v int) {
	if key := h.f.R[1]; key&1 == 1 {
		h.s.L = append(h.s.L, api.Ev{Core: h.id, Kind: kind, A: key, V: v})
	}
}

func (h hand) end(v int, e api.Errno) { h.c.F, h.c.V, h.c.E = h.c.F[:len(h.c.F)-1], v, e }

func (h hand) call(op int, r ...int) {
	f := api.Frame{Op: op}
	copy(f.R[:], r)
	if len(h.c.F) < 40 {
		h.c.F = append(h.c.F, f)
	}
}

// on is where a search goes on: the word at R3 is R4.
func (h hand) on() {
	r := &h.f.R
	r[4] = h.load(r[3])
	switch {
	case marked(r[4]):
		h.f.Pc = 0
	case index(r[4]) == 0:
		h.missing()
	default:
		h.f.Pc = 1
	}
}

func (h hand) missing() {
	r := h.f.R
	if r[2] == 0 || r[2] == 2 {
		h.log(api.EGone, 0)
	}
	h.c.X = [3]int{r[3], r[4], r[5]}
	h.end(0, api.OK)
}

func (h hand) found() {
	r := h.f.R
	if r[2] == 0 {
		h.log(api.ESeen, 0)
	}
	if r[2] == 1 {
		h.log(api.EHad, 0)
	}
	h.c.X = [3]int{r[3], r[4], r[5]}
	h.end(1, api.OK)
}

// find is a step of OFind as chapter 9 tells it.
func (h hand) find() {
	f := h.f
	r := &f.R
	node := index(r[4])
	switch f.Pc {
	case 0:
		r[3] = r[0]
		h.on()
	case 1:
		h.store(9+3*h.id, node)
		f.Pc = 2
	case 2:
		f.Pc = 3
		if h.load(r[3]) != r[4] {
			f.Pc = 0
		}
	case 3:
		r[5] = h.load(cell(node, api.Next))
		f.Pc = 6
		if marked(r[5]) {
			f.Pc = 4
		}
	case 4:
		f.Pc = 0
		if h.swap(r[3], r[4], index(r[5]), 0) {
			f.Pc = 5
			h.call(api.ORetire, node)
		}
	case 5:
		h.on()
	case 6:
		r[6] = h.load(cell(node, api.Key))
		f.Pc = 9
		if r[6] < r[1] {
			f.Pc = 7
		}
	case 7:
		h.store(10+3*h.id, node)
		f.Pc = 8
	case 8:
		r[3] = cell(node, api.Next)
		h.on()
	case 9:
		if h.load(r[3]) != r[4] {
			f.Pc = 0
		} else if r[6] > r[1] {
			h.missing()
		} else {
			f.Pc = 10
		}
	case 10:
		r[5] = h.load(cell(node, api.Next))
		if marked(r[5]) {
			f.Pc = 0
		} else {
			h.found()
		}
	}
}

// get is a step of OGet as chapter 9 tells it.
func (h hand) get() {
	f, c := h.f, h.c
	r := &f.R
	switch f.Pc {
	case 0:
		f.Pc = 1
		h.call(api.OFind, r[0], r[1], 0)
	case 1:
		if c.V == 0 {
			r[7], r[6], f.Pc = 0, 3, 3
		} else {
			r[4], f.Pc = c.X[1], 2
		}
	case 2:
		r[7], r[6], f.Pc = h.load(cell(index(r[4]), api.Val)), 0, 3
	case 3:
		h.store(9+3*h.id, 0)
		f.Pc = 4
	case 4:
		h.store(10+3*h.id, 0)
		h.end(r[7], api.Errno(r[6]))
	}
}

// ins is a step of OIns as chapter 9 tells it.
func (h hand) ins() {
	f, c := h.f, h.c
	r := &f.R
	switch f.Pc {
	case 0:
		f.Pc = 1
		h.call(api.OAlloc)
	case 1:
		if c.E != api.OK {
			h.end(0, c.E)
		} else {
			r[3], f.Pc = c.V, 2
		}
	case 2:
		h.store(cell(r[3], api.Key), r[1])
		f.Pc = 3
	case 3:
		h.store(cell(r[3], api.Val), r[2])
		f.Pc = 4
	case 4:
		f.Pc = 5
		h.call(api.OFind, r[0], r[1], 1)
	case 5:
		if c.V == 0 {
			r[4], r[5], f.Pc = c.X[0], c.X[1], 6
		} else {
			f.Pc = 11
			h.call(api.ODrop, r[3])
		}
	case 6:
		r[6], f.Pc = h.load(cell(r[3], api.Next)), 7
	case 7:
		h.store(cell(r[3], api.Next), newer(r[6], index(r[5]), 0))
		f.Pc = 8
	case 8:
		f.Pc = 4
		if h.swap(r[4], r[5], r[3], 0) {
			h.log(api.EIns, r[2])
			f.Pc = 9
		}
	case 9, 12:
		h.store(9+3*h.id, 0)
		f.Pc++
	case 10:
		h.store(10+3*h.id, 0)
		h.end(r[3], api.OK)
	case 11:
		r[7], f.Pc = index(c.X[1]), 12
	case 13:
		h.store(10+3*h.id, 0)
		h.end(r[7], api.ErrHad)
	}
}

// del is a step of ODel as chapter 9 tells it.
func (h hand) del() {
	f, c := h.f, h.c
	r := &f.R
	node := index(r[4])
	switch f.Pc {
	case 0:
		f.Pc = 1
		h.call(api.OFind, r[0], r[1], 2)
	case 1:
		if c.V == 0 {
			r[7], r[6], f.Pc = 0, 3, 6
		} else {
			r[3], r[4], r[5], f.Pc = c.X[0], c.X[1], c.X[2], 2
		}
	case 2:
		f.Pc = 0
		if h.swap(cell(node, api.Next), r[5], index(r[5]), 1) {
			h.log(api.EDel, 0)
			f.Pc = 3
		}
	case 3:
		r[7], r[6], f.Pc = h.load(cell(node, api.Val)), 0, 4
	case 4:
		f.Pc = 5
		if h.swap(r[3], r[4], index(r[5]), 0) {
			f.Pc = 6
			h.call(api.ORetire, node)
		}
	case 5:
		f.Pc = 6
		h.call(api.OFind, r[0], r[1], 3)
	case 6:
		h.store(9+3*h.id, 0)
		f.Pc = 7
	case 7:
		h.store(10+3*h.id, 0)
		h.end(r[7], api.Errno(r[6]))
	}
}

// checkStep holds a step of a core against the one that is done by hand.
func checkStep(t *testing.T, s api.Sys, id int) {
	t.Helper()
	want := clone(s)
	h := handOf(&want, id)
	f := *h.f
	switch f.Op {
	case api.OFind:
		h.find()
	case api.OGet:
		h.get()
	case api.OIns:
		h.ins()
	case api.ODel:
		h.del()
	}
	if got := list.Step(s, id); !same(got, want) {
		t.Errorf("op %d, step %d, core %d of %d, R %v, Bad %t: %v, %v, Bad %t; want %v, %v, Bad %t",
			f.Op, f.Pc, id, len(s.C), f.R, s.M.Bad, got.C[id], got.L, got.M.Bad, want.C[id], want.L, want.M.Bad)
	}
}

// seen are words of nodes of each kind and of none, beside the arena's end and at the edges of tags and indices, with marks and without, and some that aren't packed.
var seen = []int{
	packed(0, 2, 0), packed(7, 5, 1), packed(3, 3, 0), packed(1, 1, 0), packed(1<<40-1, 4, 0), packed(0, 5, 0), packed(1<<40-1, 6, 1), packed(1<<40-1, 2, 0),
	0, 1, packed(9, 0, 0), packed(1<<40-1, 0, 1), packed(2, 7, 0), packed(2, 1<<20-1, 1), -1, -2, 1 << 61, -1 << 61, math.MaxInt, math.MinInt,
}

// places are those of a root, of a slot, of cells of nodes of each kind, the last one, and some that there aren't.
var places = append([]int{spot, 0, 12, 127, cell(1, 1), cell(2, 1), cell(3, 1), cell(4, 0), cell(5, 1), cell(5, 3), cell(6, 3), cell(7, 0), 1 << 40}, far...)

// keys are odd and even ones, with those beside them.
var keys = []int{5, 6, 4, 7, 0, 1, -1, -2, 1 << 40, 1<<40 + 1, 1 << 61, -1 << 61, math.MaxInt, math.MinInt, math.MinInt + 1}

// spots are systems of so many cores, with a step ahead at one of them: the word at a place is the one that was seen, and then behind is at the Next of its node; and one whose words are others.
func spots(cores, id int, f api.Frame, at, word, behind int) []api.Sys {
	other := over(lay(six(), cores), id, f)
	other.M.Bad = (id+f.Pc)%2 == 1
	s := clone(other)
	lay := func(at, v int) {
		if at >= 0 && at < len(s.M.W) {
			s.M.W[at] = v
		}
	}
	lay(cell(index(word), api.Next), behind)
	lay(at, word)
	return []api.Sys{s, other}
}

// TestFindSteps: P9.1, each step of OFind, at places and words of all kinds, for each of what it may be for, of odd keys and of even ones, where the words still stand, and where they don't.
func TestFindSteps(t *testing.T) {
	for pc := range 11 {
		n := 0
		for i, at := range places {
			for k, word := range seen {
				for j, behind := range seen {
					if (i+k+j)%6 != pc%6 {
						continue
					}
					n++
					key, cores := keys[n%len(keys)], 1+n%8
					id, what, beside := (n/3)%cores, []int{0, 1, 2, 3, 4, -1, 1 << 32}[n%7], key-1+(n/5)%3
					f := frame(api.OFind, pc, at, key, what, at, word, behind, beside)
					if pc == 0 {
						f.R[3] = -43
					}
					for _, s := range spots(cores, id, f, at, word, behind) {
						checkStep(t, s, id)
					}
				}
			}
		}
	}
}

// TestFindKeys: P9.1, which way OFind goes by keys below, like and above what a node has, and what it tells of these.
func TestFindKeys(t *testing.T) {
	two := packed(4, 2, 0)
	for _, key := range keys {
		for _, has := range keys {
			for what := -1; what <= 4; what++ {
				for _, pc := range []int{6, 9, 10} {
					s := over(lay(six(), 2), 1, frame(api.OFind, pc, spot, key, what, spot, two, 0, has))
					s.M.W[spot], s.M.W[cell(2, 1)], s.M.W[cell(2, 2)] = two, packed(1, 5, 0), has
					checkStep(t, s, 1)
				}
			}
		}
	}
}

// TestOnSteps: P9.1, where a search goes on, at each of its three steps that do, at words of all kinds, for each of what it may be for.
func TestOnSteps(t *testing.T) {
	for _, pc := range []int{0, 5, 8} {
		for _, word := range seen {
			for _, key := range keys {
				for what := -1; what <= 4; what++ {
					s := over(lay(six(), 3), 2, frame(api.OFind, pc, spot, key, what, spot, packed(4, 2, 0)))
					s.M.W[spot], s.M.W[cell(2, 1)] = word, word
					checkStep(t, s, 2)
				}
			}
		}
	}
}

// TestGetSteps: P9.1, each step of OGet, behind all that an OFind may have told.
func TestGetSteps(t *testing.T) {
	for pc := range 5 {
		for i, word := range seen {
			for k, at := range places {
				for _, v := range []int{0, 1, 2, -1, 1 << 61} {
					cores := 1 + (i+k)%8
					id := (i + 2*k) % cores
					f := frame(api.OGet, pc, at, keys[(i+k)%len(keys)], -5, -6, word, -7, i%7, at)
					for _, s := range spots(cores, id, f, at, word, seen[k%len(seen)]) {
						s.C[id].V, s.C[id].X = v, [3]int{at, seen[(i+k)%len(seen)], -9}
						checkStep(t, s, id)
					}
				}
			}
		}
	}
}

// TestInsSteps: P9.1, each step of OIns, of nodes that there are and aren't, at places and words of all kinds, where these still stand, and where they don't, behind all that an OFind or an OAlloc may have told.
func TestInsSteps(t *testing.T) {
	nodes := append([]int{0, 1, 2, 3, 4, 5, 6, 7, 1<<20 + 2}, far...)
	for pc := range 14 {
		n := 0
		for i, at := range places {
			for k, word := range seen {
				for j, node := range nodes {
					if (i+k+j)%6 != pc%6 {
						continue
					}
					n++
					cores := 1 + n%8
					id, v := (n/3)%cores, []int{0, 1, node}[n%3]
					f := frame(api.OIns, pc, at, keys[n%len(keys)], far[n%len(far)], node, at, word, seen[n%len(seen)], n)
					for _, s := range spots(cores, id, f, at, word, packed(3, 6, 1)) {
						s.C[id].V, s.C[id].X, s.C[id].E = v, [3]int{at, word, -9}, api.Errno(n%4*2%5)
						checkStep(t, s, id)
					}
				}
			}
		}
	}
}

// TestDelSteps: P9.1, each step of ODel, at places and words of all kinds, where these still stand, and where they don't, behind all that an OFind may have told.
func TestDelSteps(t *testing.T) {
	for pc := range 8 {
		n := 0
		for i, at := range places {
			for k, word := range seen {
				for j, behind := range seen {
					if (i+k+j)%6 != pc%6 {
						continue
					}
					n++
					cores := 1 + n%8
					id := (n / 3) % cores
					f := frame(api.ODel, pc, at, keys[n%len(keys)], -5, at, word, behind, n%7, far[n%len(far)])
					for _, s := range spots(cores, id, f, at, word, behind) {
						s.C[id].V, s.C[id].X = n%3, [3]int{at, behind, word}
						checkStep(t, s, id)
					}
				}
			}
		}
	}
}

// TestTold: P9.1, the steps behind a call, whatever V, E and X it told, and what an op's registers tell at its end.
func TestTold(t *testing.T) {
	two := packed(4, 2, 0)
	for _, e := range []api.Errno{0, 1, 2, 3, 4, 5, 6, 7, 99, -1, math.MaxInt, math.MinInt} {
		for _, v := range append([]int{0, 1, 2, 3, packed(5, 2, 0)}, far...) {
			for _, f := range []api.Frame{
				frame(api.OFind, 5, spot, 5, 0, spot, two), frame(api.OGet, 1, spot, 5), frame(api.OGet, 4, spot, 5, 0, 0, 0, 0, int(e), v),
				frame(api.OIns, 1, spot, 5, 9), frame(api.OIns, 5, spot, 5, 9, 5), frame(api.OIns, 11, spot, 5, 9, 5), frame(api.OIns, 13, spot, 5, 9, 5, 0, 0, 0, v), frame(api.OIns, 10, spot, 5, 9, v),
				frame(api.ODel, 1, spot, 5), frame(api.ODel, 6, spot, 5), frame(api.ODel, 7, spot, 5, 0, 0, 0, 0, int(e), v),
			} {
				s := over(lay(six(), 3), 2, f)
				s.C[2].V, s.C[2].E, s.C[2].X = v, e, [3]int{v, v + 1, v - 1}
				checkStep(t, s, 2)
			}
		}
	}
}

// TestBothWays: P9.1, where a step goes, by what it sees: these are told one by one, with the word at the list's place, how many events there are more, and what is told at the end.
func TestBothWays(t *testing.T) {
	two, five := packed(4, 2, 0), packed(6, 5, 0)
	none, gone := packed(3, 0, 0), packed(8, 5, 1)
	for _, c := range []struct {
		name         string
		f            api.Frame
		word, behind int
		pc, events   int
		is           int
	}{
		{"a node", frame(api.OFind, 0, spot, 5, 0), two, five, 1, 0, two},
		{"a word with a mark", frame(api.OFind, 0, spot, 5, 0), two + 1, five, 0, 0, two + 1},
		{"none, with a mark", frame(api.OFind, 0, spot, 5, 0), none + 1, five, 0, 0, none + 1},
		{"the word stands", frame(api.OFind, 2, spot, 5, 0, spot, two), two, five, 3, 0, two},
		{"another tag", frame(api.OFind, 2, spot, 5, 0, spot, packed(3, 2, 0)), two, five, 0, 0, two},
		{"it isn't gone", frame(api.OFind, 3, spot, 5, 0, spot, two), two, five, 6, 0, two},
		{"it is gone", frame(api.OFind, 3, spot, 5, 0, spot, two), two, gone, 4, 0, two},
		{"taken out", frame(api.OFind, 4, spot, 5, 0, spot, two, gone), two, gone, 5, 0, packed(5, 5, 0)},
		{"was taken out", frame(api.OFind, 4, spot, 5, 0, spot, packed(3, 2, 0), gone), two, gone, 0, 0, two},
		{"on behind that", frame(api.OFind, 5, spot, 5, 0, spot, two), five, five, 1, 0, five},
		{"a mark behind that", frame(api.OFind, 8, spot, 5, 0, spot, two), two, gone, 0, 0, two},
		{"a node behind that", frame(api.OFind, 8, spot, 5, 0, spot, two), two, five, 1, 0, two},
		{"no longer there", frame(api.OFind, 9, spot, 5, 0, spot, two, 0, 6), five, five, 0, 0, five},
		{"the key, it seems", frame(api.OFind, 9, spot, 5, 0, spot, two, 0, 5), two, five, 10, 0, two},
		{"the key, gone", frame(api.OFind, 10, spot, 5, 0, spot, two, 0, 5), two, gone, 0, 0, two},
		{"linked", frame(api.OIns, 8, spot, 5, 50, 5, spot, two), two, five, 9, 1, packed(5, 5, 0)},
		{"linked, even", frame(api.OIns, 8, spot, 6, 50, 5, spot, two), two, five, 9, 0, packed(5, 5, 0)},
		{"not linked", frame(api.OIns, 8, spot, 5, 50, 5, spot, packed(3, 2, 0)), two, five, 4, 0, two},
		{"marked", frame(api.ODel, 2, spot, 5, 0, spot, two, five), two, five, 3, 1, two},
		{"marked, even", frame(api.ODel, 2, spot, 6, 0, spot, two, five), two, five, 3, 0, two},
		{"not marked", frame(api.ODel, 2, spot, 5, 0, spot, two, five), two, packed(7, 5, 0), 0, 0, two},
		{"was marked", frame(api.ODel, 2, spot, 5, 0, spot, two, five), two, gone, 0, 0, two},
		{"its own taken out", frame(api.ODel, 4, spot, 5, 0, spot, two, five), two, gone, 6, 0, packed(5, 5, 0)},
		{"its own not taken out", frame(api.ODel, 4, spot, 5, 0, spot, packed(3, 2, 0), five), two, gone, 5, 0, two},
	} {
		s := over(lay(six(), 2), 1, c.f)
		s.M.W[spot], s.M.W[cell(2, 1)] = c.word, c.behind
		got := list.Step(s, 1)
		f := got.C[1].F[1]
		if f.Op != c.f.Op || f.Pc != c.pc || len(got.L)-2 != c.events || got.M.W[spot] != c.is || got.M.Bad {
			t.Errorf("%s: %v, events %v, the word %d, Bad %t", c.name, f, got.L, got.M.W[spot], got.M.Bad)
		}
		checkStep(t, s, 1)
	}
}

// TestFindEnds: P9.1, how OFind ends: what it tells, X, and the event, by what it is for; of an even key none.
func TestFindEnds(t *testing.T) {
	two, five, none := packed(4, 2, 0), packed(6, 5, 0), packed(3, 0, 0)
	for _, c := range []struct {
		name string
		f    api.Frame
		word int
		v    int
		x    [3]int
		kind [5]int
	}{
		{"an empty list", frame(api.OFind, 0, spot, 5), none, 0, [3]int{spot, none, -45}, [5]int{api.EGone, 0, api.EGone, 0, 0}},
		{"empty behind that", frame(api.OFind, 5, spot, 5, 0, spot, two, 7), none, 0, [3]int{spot, none, 7}, [5]int{api.EGone, 0, api.EGone, 0, 0}},
		{"a greater one", frame(api.OFind, 9, spot, 5, 0, spot, two, 7, 6), two, 0, [3]int{spot, two, 7}, [5]int{api.EGone, 0, api.EGone, 0, 0}},
		{"the key", frame(api.OFind, 10, spot, 5, 0, spot, two, 7, 5), two, 1, [3]int{spot, two, five}, [5]int{api.ESeen, api.EHad, 0, 0, 0}},
	} {
		for what, kind := range c.kind {
			for _, key := range []int{5, -5, 6, -6} {
				f := c.f
				f.R[1], f.R[2] = key, what
				f.R[6] += key - 5
				s := over(lay(six(), 2), 1, f)
				s.M.W[spot], s.M.W[cell(2, 1)] = c.word, five
				want := clone(s)
				want.C[1].F = want.C[1].F[:1]
				want.C[1].V, want.C[1].E, want.C[1].X = c.v, api.OK, c.x
				if kind > 0 && key%2 != 0 {
					want.L = append(want.L, api.Ev{Core: 1, Kind: kind, A: key})
				}
				if got := list.Step(s, 1); !same(got, want) {
					t.Errorf("%s, key %d, for %d: %v, %v; want %v, %v", c.name, key, what, got.C[1], got.L, want.C[1], want.L)
				}
				checkStep(t, s, 1)
			}
		}
	}
}

// TestDeep: P9.1, where a core has 40 frames nothing is called, and the op goes on at its step behind that; one frame less, and it is.
func TestDeep(t *testing.T) {
	two, five := packed(4, 2, 0), packed(6, 5, 0)
	for _, frames := range []int{1, 2, 39, 40} {
		for _, c := range []struct {
			f  api.Frame
			pc int
		}{
			{frame(api.OFind, 4, spot, 5, 0, spot, two, five), 5}, {frame(api.OGet, 0, spot, 5), 1},
			{frame(api.OIns, 0, spot, 5, 9), 1}, {frame(api.OIns, 4, spot, 5, 9), 5}, {frame(api.OIns, 5, spot, 5, 9, 5), 11},
			{frame(api.ODel, 0, spot, 5), 1}, {frame(api.ODel, 4, spot, 5, 9, spot, two, five), 6}, {frame(api.ODel, 5, spot, 5), 6},
		} {
			s := lay(six(), 2)
			s.C[1].F = make([]api.Frame, frames-1)
			s = over(s, 1, c.f)
			s.M.W[spot] = two
			checkStep(t, s, 1)
			got := list.Step(s, 1)
			if want := min(frames+1, 40); len(got.C[1].F) != want || got.C[1].F[frames-1].Pc != c.pc {
				t.Errorf("%d frames, op %d, step %d: %v", frames, c.f.Op, c.f.Pc, got.C[1])
			}
		}
	}
}

// unchanged: is a step s?
func unchanged(t *testing.T, name string, s api.Sys, id int) {
	t.Helper()
	if got := list.Step(s, id); !same(got, s) {
		t.Errorf("%s: core %d: %v", name, id, got.C)
	}
}

// steps is how many steps each of these ops has.
var steps = map[int]int{api.OFind: 11, api.OGet: 5, api.OIns: 14, api.ODel: 8}

// TestOtherPc: P9.1, nothing happens, where Pc is none of the op's steps.
func TestOtherPc(t *testing.T) {
	for op, n := range steps {
		for _, pc := range []int{-14, -3, -2, -1, n, n + 1, n + 5, 14, 100, 1 << 32, 1<<32 + 1, 1 << 61, math.MaxInt, math.MinInt} {
			for _, at := range places {
				unchanged(t, "another Pc", over(lay(six(), 3), 1, frame(op, pc, at, 5, 0, at, packed(1, 2, 0))), 1)
			}
		}
	}
}

// TestOtherOp: P9.1, a top that is another op, also over one of these.
func TestOtherOp(t *testing.T) {
	for op := -3; op <= 40; op++ {
		if op >= 1 && op <= 14 {
			continue
		}
		for pc := range 14 {
			for below := range steps {
				s := over(lay(six(), 2), 0, frame(below, pc, spot, 5, 2))
				unchanged(t, "another op", over(s, 0, frame(op, pc, spot, 5, 2)), 0)
			}
		}
	}
}

// TestNoCore: P9.1, a core that there isn't, and one without a frame.
func TestNoCore(t *testing.T) {
	for _, cores := range []int{1, 2, 8} {
		for op := api.OPop; op <= api.ODel; op++ {
			s := lay(six(), cores)
			for id := range cores {
				s = over(s, id, frame(op, 0, 5))
			}
			for _, id := range []int{-1, -2, -cores, cores, cores + 1, 8, 100, 1 << 32, math.MaxInt, math.MinInt} {
				unchanged(t, "no core", s, id)
			}
			for id := range cores {
				x := clone(s)
				x.C[id] = api.Core{V: 5, Ret: []int{3, 6}}
				unchanged(t, "no frame", x, id)
			}
		}
	}
}

// TestBelow: P9.1, steps of chapter 4's to 8's ops are as these tell: each step, whatever is below.
func TestBelow(t *testing.T) {
	for op := api.OPop; op <= api.ODeq; op++ {
		for pc := -1; pc <= 12; pc++ {
			for _, r := range [][]int{{0, 0}, {2, 1, 4, 4}, {5, 0, packed(1, 2, 0), packed(1, 2, 0), packed(2, 5, 0)}, {3, 2, 3 << 1, 3 << 1}, {-1, 300, 1 << 61, -1 << 61}} {
				for below := range steps {
					for id := range 3 {
						s := over(over(lay(six(), 3), id, frame(below, 1, spot)), id, frame(op, pc, r...))
						if got, want := list.Step(s, id), msq.Step(s, id); !same(got, want) {
							t.Errorf("op %d, step %d, %v: %v; want %v", op, pc, r, got.C[id], want.C[id])
						}
					}
				}
			}
		}
	}
}

// TestOwn: P9.1, the fourteen ops up to chapter 9's are, and no other number is.
func TestOwn(t *testing.T) {
	for op := -100; op <= 100; op++ {
		if is, want := list.Own(op), op >= 1 && op <= 14; is != want {
			t.Errorf("Own(%d) = %t", op, is)
		}
	}
	for _, op := range []int{math.MinInt, math.MaxInt, 1<<32 + 11, 1<<32 + 14, -1 << 40, 1 << 61} {
		if list.Own(op) {
			t.Errorf("Own(%d)", op)
		}
	}
}

// start is a new system, of counts that there may be.
func start(t *testing.T, cores, nodes int) api.Sys {
	t.Helper()
	s, e := alloc.Start(cores, nodes)
	if e != api.OK {
		t.Fatalf("Start(%d, %d): %d", cores, nodes, e)
	}
	return s
}

// run does an op of a core alone to its end.
func run(t *testing.T, s api.Sys, id, op int, args ...int) api.Sys {
	t.Helper()
	frames := len(s.C[id].F)
	s = core.Call(s, id, op, args...)
	for range 9000 {
		if len(s.C[id].F) <= frames {
			return s
		}
		s = list.Step(s, id)
	}
	t.Fatalf("core %d doesn't end: %v", id, s.C[id])
	return s
}

// told is run, with what it must tell.
func told(t *testing.T, s api.Sys, v int, e api.Errno, id, op int, args ...int) api.Sys {
	t.Helper()
	s = run(t, s, id, op, args...)
	if c := s.C[id]; c.V != v || c.E != e || s.M.Bad {
		t.Fatalf("core %d, op %d of %v: %d, %d, Bad %t; want %d, %d", id, op, args, c.V, c.E, s.M.Bad, v, e)
	}
	return s
}

// until does a core's steps up to one of an op of its.
func until(t *testing.T, s api.Sys, id, op, pc int) api.Sys {
	t.Helper()
	for range 900 {
		if f, is := core.Top(s, id); is && f.Op == op && f.Pc == pc {
			return s
		}
		s = list.Step(s, id)
	}
	t.Fatalf("core %d doesn't come to step %d of op %d: %v", id, pc, op, s.C[id])
	return s
}

// checkKeys checks what a list holds: keys and values by turns.
func checkKeys(t *testing.T, s api.Sys, at int, want ...int) {
	t.Helper()
	k, v, is := list.Keys(s, at)
	var got []int
	for i := range min(len(k), len(v)) {
		got = append(got, k[i], v[i])
	}
	if !is || len(k) != len(v) || !slices.Equal(got, want) {
		t.Errorf("the list at %d: %v, %v, %t; want %v", at, k, v, is, want)
	}
}

// checkNone checks that a list can't be told.
func checkNone(t *testing.T, name string, s api.Sys, at int) {
	t.Helper()
	if k, v, is := list.Keys(s, at); is || len(k) != 0 || len(v) != 0 {
		t.Errorf("%s: the list at %d: %v, %v, %t", name, at, k, v, is)
	}
}

// TestKeys: P9.2, lists that are laid word by word, from each kind of place: keys and values as they stand, whatever the nodes are, tags, what is Bad, and the mark of the list's own word; nodes that are gone aren't told, but what is behind them is. Nothing is touched.
func TestKeys(t *testing.T) {
	for _, at := range []int{0, spot, 127, cell(6, 0), cell(6, 1), cell(6, 3)} {
		s := lay(six(), 2)
		lay := func(words ...int) {
			place := at
			for _, w := range words {
				s.M.W[place] = w
				place = cell(index(w), 1)
			}
			s.M.W[place] = packed(at, 0, 0)
		}
		for node := 1; node <= 5; node++ {
			s.M.W[cell(node, 2)], s.M.W[cell(node, 3)] = []int{0, 40, math.MinInt, 40, 7, 6}[node], []int{0, 0, 9, -9, math.MaxInt, 0}[node]
		}
		lay()
		checkKeys(t, s, at)
		lay(packed(4, 5, 0))
		checkKeys(t, s, at, 6, 0)
		lay(packed(4, 5, 1), packed(0, 1, 0))
		checkKeys(t, s, at, 6, 0, 40, 0)
		lay(packed(0, 2, 0), packed(9, 5, 1), packed(1<<40-1, 4, 0))
		checkKeys(t, s, at, 6, 0, 7, math.MaxInt)
		lay(packed(0, 2, 0), packed(9, 5, 1), packed(1<<40-1, 4, 1), packed(0, 3, 0))
		checkKeys(t, s, at, 7, math.MaxInt, 40, -9)
		lay(packed(0, 3, 0)-1<<61, packed(3, 1, 0)-1<<62, packed(0, 2, 0), packed(2, 5, 0), packed(0, 4, 0))
		checkKeys(t, s, at, 40, -9, 40, 0, math.MinInt, 9, 6, 0, 7, math.MaxInt)
		s.M.W[cell(4, 1)] |= 1
		kept := clone(s)
		s.M.Bad = true
		checkKeys(t, s, at, 40, -9, 40, 0, math.MinInt, 9, 6, 0)
		s.M.Bad = false
		if !same(s, kept) {
			t.Errorf("the list at %d: touched", at)
		}
		s.M.W[at] = packed(5, 0, 1)
		checkKeys(t, s, at)
	}
}

// TestKeysNot: P9.2, none, where there is no such place; where an index is none of a node of the arena, or of one that came already, gone or not.
func TestKeysNot(t *testing.T) {
	for nodes := 1; nodes <= 3; nodes++ {
		s := start(t, 1, nodes)
		checkKeys(t, s, 127+4*nodes)
		for _, at := range append([]int{-2, -128, 128 + 4*nodes, 129 + 4*nodes, 1 << 40}, far...) {
			if nodes < 3 || at != 201 {
				checkNone(t, "no place", s, at)
			}
		}
	}
	for _, at := range []int{spot, cell(6, 1), cell(1, 3)} {
		for _, bad := range []int{packed(0, 7, 0), packed(3, 7, 1), packed(0, 128, 0), packed(1<<40-1, 1<<20-1, 1), -1, math.MaxInt} {
			for mark := range 2 {
				s := lay(six(), 2)
				s.M.W[at] = bad
				checkNone(t, "the first one", s, at)
				s.M.W[at], s.M.W[cell(2, 1)], s.M.W[cell(5, 1)] = packed(0, 2, 0), packed(0, 5, mark), bad
				checkNone(t, "beyond", s, at)
				for _, node := range []int{2, 5} {
					s.M.W[cell(5, 1)] = packed(at, node, mark)
					checkNone(t, "round", s, at)
				}
				s.M.W[cell(2, 1)] = packed(at, 2, mark)
				checkNone(t, "its own", s, at)
				s.M.W[cell(2, 1)] = packed(at, 0, mark)
				checkKeys(t, s, at, [][]int{{s.M.W[cell(2, 2)], s.M.W[cell(2, 3)]}, {}}[mark]...)
			}
		}
	}
	s := lay(six(), 1)
	s.M.W[cell(2, 1)], s.M.W[cell(5, 1)] = packed(0, 5, 0), packed(0, 2, 0)
	checkNone(t, "round by the node that it begins at", s, cell(2, 1))
	s.M.W[cell(2, 1)] = packed(0, 2, 0)
	checkNone(t, "its own, that it begins at", s, cell(2, 1))
}

// TestExample: P9.2 and P9.3, 3, then 1 laid in: 1, 3; 1 taken out: 3.
func TestExample(t *testing.T) {
	s := start(t, 1, 5)
	s = told(t, s, 1, api.OK, 0, api.OIns, spot, 3, 30)
	s = told(t, s, 2, api.OK, 0, api.OIns, spot, 1, 10)
	checkKeys(t, s, spot, 1, 10, 3, 30)
	s = told(t, s, 10, api.OK, 0, api.ODel, spot, 1)
	checkKeys(t, s, spot, 3, 30)
	want := []api.Ev{{Kind: api.EIns, A: 3, V: 30}, {Kind: api.EIns, A: 1, V: 10}, {Kind: api.EDel, A: 1}}
	if !slices.Equal(s.L, want) || !slices.Equal(s.C[0].Ret, []int{2}) {
		t.Errorf("%v, %v", s.L, s.C[0].Ret)
	}
}

// pairs are a map's keys, rising, each with its value.
func pairs(m map[int]int) []int {
	var l []int
	for _, key := range slices.Sorted(maps.Keys(m)) {
		l = append(l, key, m[key])
	}
	return l
}

// TestOneAtATime: P9.3, one core after another lays in, looks for and takes out, keys of all kinds: each tells what a map does, with the events of the odd ones.
func TestOneAtATime(t *testing.T) {
	s := start(t, 3, 60)
	holds, rule := map[int]int{}, uint64(9)
	for i := range 700 {
		rule = rule*6364136223846793005 + 1442695040888963407
		id, key, v := i%3, keys[int(rule>>33)%len(keys)], 1000+i
		had, is := holds[key]
		events, want := len(s.L), []api.Ev{}
		tell := func(kind, v int) {
			if key%2 != 0 {
				want = append(want, api.Ev{Core: id, Kind: kind, A: key, V: v})
			}
		}
		op := api.OGet + int(rule>>60)%3
		switch {
		case op == api.OIns && is:
			s = run(t, s, id, op, spot, key, v)
			if c := s.C[id]; c.E != api.ErrHad || s.M.W[cell(c.V, 2)] != key || s.M.W[cell(c.V, 3)] != had {
				t.Errorf("%d is there: %d, %d", key, c.V, c.E)
			}
			tell(api.EHad, 0)
		case op == api.OIns:
			s = run(t, s, id, op, spot, key, v)
			if c := s.C[id]; c.E != api.OK || s.M.W[cell(c.V, 2)] != key || s.M.W[cell(c.V, 3)] != v {
				t.Errorf("%d laid in: %d, %d", key, c.V, c.E)
			}
			holds[key] = v
			tell(api.EIns, v)
		case !is:
			s = told(t, s, 0, api.ErrNone, id, op, spot, key)
			tell(api.EGone, 0)
		default:
			s = told(t, s, had, api.OK, id, op, spot, key)
			if op == api.ODel {
				delete(holds, key)
				tell(api.EDel, 0)
			} else {
				tell(api.ESeen, 0)
			}
		}
		if !slices.Equal(s.L[events:], want) || s.M.Bad {
			t.Errorf("op %d of %d: %v, want %v", op, key, s.L[events:], want)
		}
		checkKeys(t, s, spot, pairs(holds)...)
	}
}

// TestFull: P9.3, as many as nodes are free are laid in, however they come; one more is ErrFull, and changes no list, and so is one that is there already, since a node is asked for first; what is taken out makes room, once it is scanned.
func TestFull(t *testing.T) {
	for _, nodes := range []int{1, 2, 3, 20, 200} {
		s := start(t, 2, nodes)
		var want []int
		for i := range nodes {
			key := (i * 7) % nodes
			s = told(t, s, i+1, api.OK, i%2, api.OIns, spot, key, key)
		}
		for key := range nodes {
			want = append(want, key, key)
		}
		events := len(s.L)
		s = told(t, s, 0, api.ErrFull, 1, api.OIns, spot, nodes, 5)
		s = told(t, s, 0, api.ErrFull, 0, api.OIns, spot, 0, 5)
		checkKeys(t, s, spot, want...)
		if !slices.Equal(s.L[events:], []api.Ev{{Core: 1, Kind: api.ENoMem}, {Core: 0, Kind: api.ENoMem}}) {
			t.Errorf("%d nodes: events %v", nodes, s.L[events:])
		}
		for key := range nodes {
			s = told(t, s, key, api.OK, 1, api.ODel, spot, key)
		}
		checkKeys(t, s, spot)
		s = told(t, s, 0, api.ErrNone, 0, api.OGet, spot, 0)
		s = run(t, s, 1, api.OIns, spot, -3, 5)
		checkKeys(t, s, spot, -3, 5)
		s = told(t, s, 5, api.OK, 0, api.OGet, spot, -3)
	}
}

// TestListsApart: P9.3, several lists of one system, one that begins in another one's node among them: what is laid into one is in that alone, and behind the place where it begins.
func TestListsApart(t *testing.T) {
	s := start(t, 3, 60)
	spots := []int{96, 111, 127}
	for i := range 30 {
		s = told(t, s, i+1, api.OK, i%3, api.OIns, spots[i%3], 100-i, i)
	}
	for i, at := range spots {
		var want []int
		for k := 9; k >= 0; k-- {
			want = append(want, 100-i-3*k, i+3*k)
		}
		checkKeys(t, s, at, want...)
	}
	at := cell(13, 1) // node 13 has key 88, in the first of these lists
	s = told(t, s, 0, api.ErrNone, 0, api.OGet, at, 85)
	s = told(t, s, 31, api.OK, 1, api.OIns, at, 90, 7)
	s = told(t, s, 0, api.ErrNone, 2, api.ODel, at, 88)
	checkKeys(t, s, at, 90, 7, 91, 9, 94, 6, 97, 3, 100, 0)
	s = told(t, s, 7, api.OK, 0, api.ODel, 96, 90)
	s = told(t, s, 9, api.OK, 0, api.ODel, at, 91)
	checkKeys(t, s, 96, 73, 27, 76, 24, 79, 21, 82, 18, 85, 15, 88, 12, 94, 6, 97, 3, 100, 0)
}

// TestSlots: P9.1, whose slots are stored in: the core's own second and third, and these name nothing behind an op.
func TestSlots(t *testing.T) {
	for id := range 8 {
		for _, op := range []int{api.OGet, api.OIns, api.ODel} {
			for _, key := range []int{1, 4, 5, 9, 12} {
				s := start(t, 8, 30)
				for i := range 4 {
					s = told(t, s, i+1, api.OK, 0, api.OIns, spot, 3+3*i, i)
				}
				for at := 8; at < 32; at++ {
					s.M = mem.Store(s.M, at, 1000+at)
				}
				s = run(t, s, id, op, spot, key, 5)
				for at := 8; at < 32; at++ {
					want := 1000 + at
					if at == 9+3*id || at == 10+3*id {
						want = 0
					}
					if s.M.W[at] != want || s.M.Bad {
						t.Errorf("core %d, op %d of %d: the word at %d is %d", id, op, key, at, s.M.W[at])
					}
				}
			}
		}
	}
}

// TestGoneOnly: P9.3, a core stops behind its mark: the key is gone for all, and whoever passes takes its node out, and retires it; the core ends as if nothing was.
func TestGoneOnly(t *testing.T) {
	for _, c := range []struct {
		op, key, v int
		e          api.Errno
		did        bool
	}{
		{api.OGet, 5, 0, api.ErrNone, true}, {api.OGet, 7, 70, api.OK, true}, {api.ODel, 5, 0, api.ErrNone, true}, {api.ODel, 7, 70, api.OK, true},
		{api.OIns, 5, 4, api.OK, true}, {api.OIns, 7, 3, api.ErrHad, true}, {api.OIns, 4, 4, api.OK, true}, {api.OGet, 3, 30, api.OK, false}, {api.OGet, 1, 0, api.ErrNone, false},
	} {
		s := start(t, 2, 9)
		for i, key := range []int{3, 5, 7} {
			s = told(t, s, i+1, api.OK, 0, api.OIns, spot, key, 10*key)
		}
		s = until(t, core.Call(s, 0, api.ODel, spot, 5), 0, api.ODel, 3)
		checkKeys(t, s, spot, 3, 30, 7, 70)
		s = told(t, s, c.v, c.e, 1, c.op, spot, c.key, 99)
		if slices.Contains(s.C[1].Ret, 2) != c.did || s.M.G[2] == api.Free {
			t.Errorf("op %d of %d: retired %v, nodes %v", c.op, c.key, s.C[1].Ret, s.M.G)
		}
		for range 90 {
			if len(s.C[0].F) > 0 {
				s = list.Step(s, 0)
			}
		}
		if x := s.C[0]; len(x.F) > 0 || x.V != 50 || x.E != api.OK || s.M.Bad || slices.Contains(x.Ret, 2) == c.did {
			t.Errorf("op %d of %d: %v, Bad %t", c.op, c.key, x, s.M.Bad)
		}
	}
}

// TestRaced: P9.3, two lay one key in, or take one out: the one that was later is told so, its node is dropped, and what it does first is tried again.
func TestRaced(t *testing.T) {
	s := until(t, core.Call(start(t, 2, 4), 0, api.OIns, spot, 5, 50), 0, api.OIns, 8)
	s = told(t, s, 2, api.OK, 1, api.OIns, spot, 5, 51)
	s = list.Step(s, 0)
	if f, _ := core.Top(s, 0); f.Pc != 4 {
		t.Errorf("%v", f)
	}
	s = until(t, s, 0, api.OIns, 13)
	s = list.Step(s, 0)
	if c := s.C[0]; c.V != 2 || c.E != api.ErrHad || s.M.G[1] != api.Free {
		t.Errorf("%v, nodes %v", c, s.M.G)
	}
	s = until(t, core.Call(s, 0, api.ODel, spot, 5), 0, api.ODel, 2)
	s = told(t, s, 51, api.OK, 1, api.ODel, spot, 5)
	s = list.Step(s, 0)
	if f, _ := core.Top(s, 0); f.Pc != 0 {
		t.Errorf("%v", f)
	}
	s = until(t, s, 0, api.ODel, 7)
	s = list.Step(s, 0)
	if c := s.C[0]; c.V != 0 || c.E != api.ErrNone || s.M.Bad {
		t.Errorf("%v, Bad %t", c, s.M.Bad)
	}
	want := []api.Ev{{Core: 1, Kind: api.EIns, A: 5, V: 51}, {Kind: api.EHad, A: 5}, {Core: 1, Kind: api.EDel, A: 5}, {Kind: api.EGone, A: 5}}
	if free, is := stack.Walk(s.M); !slices.Equal(s.L, want) || !is || !slices.Equal(free, []int{1, 3, 4}) {
		t.Errorf("%v, %v, %t", s.L, free, is)
	}
}

// TestOrdered: P9.3, keys rise in all orders in which they may be laid in.
func TestOrdered(t *testing.T) {
	var lay func(s api.Sys, left []int)
	lay = func(s api.Sys, left []int) {
		if len(left) == 0 {
			checkKeys(t, s, spot, -3, 3, 0, 0, 2, 4, 5, 25, 9, 81)
			return
		}
		for i, key := range left {
			v := map[int]int{-3: 3, 0: 0, 2: 4, 5: 25, 9: 81}[key]
			s := told(t, s, 6-len(left), api.OK, i%2, api.OIns, spot, key, v)
			if k, _, is := list.Keys(s, spot); !is || !slices.IsSortedFunc(k, cmp.Compare[int]) {
				t.Errorf("%v, %t", k, is)
			}
			lay(s, slices.Delete(slices.Clone(left), i, i+1))
		}
	}
	lay(start(t, 2, 5), []int{-3, 0, 2, 5, 9})
}
