package table_test

import (
	"math"
	"math/bits"
	"reflect"
	"slices"
	"testing"

	"hazel/alloc"
	"hazel/api"
	"hazel/core"
	"hazel/list"
	"hazel/mem"
	"hazel/table"
)

// The places of the table's words, written out: how many buckets there are, how many names, and bucket 0's node.
const (
	sizeAt  = 48
	countAt = 49
	nodesAt = 50
)

// far are numbers that no node has, up to the farthest ones.
var far = []int{-1, 201, 1 << 20, 1<<32 + 5, 1 << 61, -1 << 61, 1 << 62, math.MaxInt, math.MinInt}

// cell is the place of a node's cell, written out.
func cell(node, c int) int { return 124 + 4*node + c }

// packed is a word, written out.
func packed(tag, index, mark int) int { return tag<<21 + index<<1 + mark }

// index is a word's index, written out.
func index(w int) int { return w >> 1 & (1<<20 - 1) }

// newer is the word behind one, of that index and no mark, written out.
func newer(w, index int) int { return (w>>21+1)&(1<<40-1)<<21 + index<<1 }

// ord is a name's key, sent a bucket's, reckoned without the program.
func ord(name int) int    { return sent(name) + 1 }
func sent(bucket int) int { return 2 * int(bits.Reverse16(uint16(bucket))) }

// numbers are n of them, no two the same.
func numbers(n, from int) []int {
	l := []int{}
	for i := range n {
		l = append(l, from+3*i)
	}
	return l
}

// kinds is an arena of these nodes' kinds; all its words are anything but 0.
func kinds(of ...int) api.Mem {
	return api.Mem{W: numbers(128+4*len(of), 7001), G: append([]int{0}, of...)}
}

// six is an arena of two nodes of each kind: 1 and 4 are Free, 2 and 5 Live, 3 and 6 Retired.
func six() api.Mem { return kinds(0, 1, 2, 0, 1, 2) }

// lay is a system on an arena, with so many cores, each with a frame below, retired nodes and numbers, and with events.
func lay(m api.Mem, cores int) api.Sys {
	s := api.Sys{M: m}
	for id := range cores {
		below := api.Frame{Op: api.OSend, Pc: 3 + id, R: [8]int{id, 1, 2, 3, 4, 5, 6, 7}, S: numbers(2, 100+id)}
		s.C = append(s.C, api.Core{F: []api.Frame{below}, V: 50 + id, E: api.Errno(1 + id%6), X: [3]int{60 + id, 70 + id, 80 + id}, Ret: numbers(id, 90+id)})
		s.L = append(s.L, api.Ev{Core: id, Kind: 1 + id, A: 20 + id, B: 30 + id, V: 40 + id})
	}
	return clone(s)
}

// clone is the same system in other memory; in it no list is nil, so that such without elements are alike (R3).
func clone(s api.Sys) api.Sys {
	c := api.Sys{C: []api.Core{}, L: append([]api.Ev{}, s.L...)}
	c.M = api.Mem{W: append([]int{}, s.M.W...), G: append([]int{}, s.M.G...), Bad: s.M.Bad}
	for _, x := range s.C {
		frames := []api.Frame{}
		for _, f := range x.F {
			f.S = append([]int{}, f.S...)
			frames = append(frames, f)
		}
		x.F, x.Ret = frames, append([]int{}, x.Ret...)
		c.C = append(c.C, x)
	}
	return c
}

// same: are two systems the same, all of it, held against each other without the program?
func same(a, b api.Sys) bool { return reflect.DeepEqual(clone(a), clone(b)) }

// over is the system with a frame over those of a core.
func over(s api.Sys, id int, f api.Frame) api.Sys {
	s = clone(s)
	s.C[id].F = append(s.C[id].F, f)
	return s
}

// frame is one of an op at a step; its other registers, and S, are anything but 0.
func frame(op, pc int, r ...int) api.Frame {
	f := api.Frame{Op: op, Pc: pc, R: [8]int{-40, -41, -42, -43, -44, -45, -46, -47}, S: []int{9, 5}}
	copy(f.R[:], r)
	return f
}

// hand is a step as it must be, done by hand: a system of the test's own, that it writes into.
type hand struct {
	s *api.Sys
	c *api.Core
	f *api.Frame
}

func handOf(s *api.Sys, id int) hand {
	c := &s.C[id]
	return hand{s, c, &c.F[len(c.F)-1]}
}

// swap compares the word at one of the table's places, and swaps it.
func (h hand) swap(at, old, to int) bool {
	w := &h.s.M.W[at]
	if *w != old {
		return false
	}
	*w = to
	return true
}

func (h hand) end(v int, e api.Errno) { h.c.F, h.c.V, h.c.E = h.c.F[:len(h.c.F)-1], v, e }

// call is where the op goes on at the next step, behind another one.
func (h hand) call(op int, r ...int) {
	h.f.Pc++
	f := api.Frame{Op: op}
	copy(f.R[:], r)
	if len(h.c.F) < 40 {
		h.c.F = append(h.c.F, f)
	}
}

// parent is the bucket that these were split from, one by one.
func parent(bucket int) int {
	return []int{0, 0, 0, 1, 0, 1, 2, 3, 0, 1, 2, 3, 4, 5, 6, 7}[bucket]
}

// bucket is a step of OBucket as chapter 11 tells it.
func (h hand) bucket() {
	f, c := h.f, h.c
	r := &f.R
	if r[0] < 0 || r[0] > 15 {
		return
	}
	switch f.Pc {
	case 0:
		r[1] = h.s.M.W[nodesAt+r[0]]
		switch {
		case r[1] != 0:
			h.end(r[1], api.OK)
		case r[0] == 0:
			h.end(0, api.ErrNone)
		default:
			f.Pc = 1
		}
	case 1:
		h.call(api.OBucket, parent(r[0]))
	case 2:
		if c.E != api.OK {
			h.end(0, c.E)
			return
		}
		r[2] = c.V
		h.call(api.OIns, cell(c.V, api.Next), sent(r[0]), 0)
	case 3:
		if c.E == api.ErrFull {
			h.end(0, api.ErrFull)
			return
		}
		r[3], f.Pc = c.V, 4
	case 4:
		h.swap(nodesAt+r[0], 0, r[3])
		h.end(r[3], api.OK)
	}
}

// name is one of the steps that OPut, OLook and OCut begin with as chapter 11 tells them, and whether it was one.
func (h hand) name() bool {
	f, c := h.f, h.c
	r := &f.R
	if r[0] < 0 || r[0] > 65535 || f.Pc < 0 || f.Pc > 2 {
		return r[0] < 0 || r[0] > 65535
	}
	switch {
	case f.Pc == 0:
		r[2], f.Pc = h.s.M.W[sizeAt], 1
	case f.Pc == 1 && (r[2] < 1 || r[2] > 16):
		h.call(api.OBucket, 0)
	case f.Pc == 1:
		h.call(api.OBucket, r[0]%r[2])
	case c.E != api.OK:
		h.end(0, c.E)
	case f.Op == api.OPut:
		h.call(api.OIns, cell(c.V, api.Next), ord(r[0]), r[1])
	case f.Op == api.OLook:
		h.call(api.OGet, cell(c.V, api.Next), ord(r[0]))
	default:
		h.call(api.ODel, cell(c.V, api.Next), ord(r[0]))
	}
	return true
}

// put is a step of OPut from the fourth one on as chapter 11 tells it.
func (h hand) put() {
	f, c := h.f, h.c
	r := &f.R
	switch f.Pc {
	case 3:
		if c.E != api.OK {
			h.end(0, c.E)
			return
		}
		f.Pc = 4
	case 4:
		r[4], f.Pc = h.s.M.W[countAt], 5
	case 5:
		f.Pc = 4
		if h.swap(countAt, r[4], r[4]+1) {
			f.Pc = 6
		}
	case 6:
		if r[2] >= 1 && r[2] <= 8 && r[4] >= r[2]+r[2] {
			h.swap(sizeAt, r[2], r[2]+r[2])
		}
		h.end(0, api.OK)
	}
}

// cut is a step of OCut from the fourth one on as chapter 11 tells it.
func (h hand) cut() {
	f, c := h.f, h.c
	r := &f.R
	switch f.Pc {
	case 3:
		if c.E != api.OK {
			h.end(0, c.E)
			return
		}
		r[3], f.Pc = c.V, 4
	case 4:
		r[4], f.Pc = h.s.M.W[countAt], 5
	case 5:
		f.Pc = 4
		if h.swap(countAt, r[4], r[4]-1) {
			h.end(r[3], api.OK)
		}
	}
}

// does does the step by hand.
func (h hand) does() {
	switch {
	case h.f.Op == api.OBucket:
		h.bucket()
	case h.name():
	case h.f.Op == api.OPut:
		h.put()
	case h.f.Op == api.OLook && h.f.Pc == 3:
		h.end(h.c.V, h.c.E)
	case h.f.Op == api.OCut:
		h.cut()
	}
}

// checkStep holds a step of a core against the one that is done by hand.
func checkStep(t *testing.T, s api.Sys, id int) {
	t.Helper()
	want := clone(s)
	h := handOf(&want, id)
	f := *h.f
	h.does()
	if got := table.Step(s, id); !same(got, want) {
		t.Errorf("op %d, step %d, core %d of %d, R %v, Bad %t: %v, %v, Bad %t, %v; want %v, %v, Bad %t, %v", f.Op, f.Pc, id, len(s.C), f.R,
			s.M.Bad, got.C[id], got.L, got.M.Bad, got.M.W[sizeAt:66], want.C[id], want.L, want.M.Bad, want.M.W[sizeAt:66])
	}
}

// errs are what an op may have told, and more.
var errs = []api.Errno{api.OK, api.ErrArg, api.ErrFull, api.ErrNone, api.ErrHad, api.ErrDead, api.ErrBlock, 7, -1, math.MaxInt, math.MinInt}

// some are names, the first and the last ones among them, and such whose bits are others in the other order.
var some = []int{0, 1, 2, 3, 5, 7, 8, 14, 15, 16, 17, 255, 256, 32767, 32768, 40000, 65534, 65535}

// words are those of all kinds: nodes, sizes at their edges, and those beside, and such as are none.
var words = append([]int{0, 1, 2, 3, 4, 5, 6, 7, 8, 9, 15, 16, 17, 18, 32}, far...)

// at is a system with a step ahead at one of its cores, that has been told v and e.
func at(n int, f api.Frame, v int, e api.Errno) (api.Sys, int) {
	cores := 1 + n%8
	id := n / 8 % cores
	s := over(lay(six(), cores), id, f)
	s.M.Bad = n%3 == 0
	s.C[id].V, s.C[id].E = v, e
	return s, id
}

// TestBucketSteps: P11.1, each step of OBucket, of each bucket, with words of all kinds at its spot, behind all that the op that was called may have told.
func TestBucketSteps(t *testing.T) {
	for pc := range 5 {
		n := 0
		for bucket := range 16 {
			for _, word := range words {
				for k, v := range words {
					n++
					s, id := at(n, frame(api.OBucket, pc, bucket, -5, -6, words[(n+k)%len(words)]), v, errs[n%len(errs)])
					s.M.W[nodesAt+bucket] = word
					checkStep(t, s, id)
				}
			}
		}
	}
}

// TestNameSteps: P11.1, each step of OPut, OLook and OCut, of names of all kinds, with words of all kinds as the size and as how many names there are, that still stand, and that don't, behind all that the op that was called may have told.
func TestNameSteps(t *testing.T) {
	for op, last := range steps {
		for pc := 0; pc < last && op != api.OBucket; pc++ {
			n := 0
			for i, name := range some {
				for j, size := range words {
					for k, count := range words {
						if (i+j+k)%4 != pc%4 {
							continue
						}
						n++
						saw := []int{size, count}
						if n%3 == 0 {
							saw[n/3%2]++
						}
						f := frame(op, pc, name, 1000+n, saw[0], words[(n+k)%len(words)], saw[1])
						s, id := at(n, f, words[n%len(words)], errs[n%len(errs)])
						s.M.W[sizeAt], s.M.W[countAt] = size, count
						checkStep(t, s, id)
					}
				}
			}
		}
	}
}

// TestKeyed: P11.1, the buckets of all names, of each size; of sizes that are none bucket 0; and the keys of all names, and of all buckets.
func TestKeyed(t *testing.T) {
	s := over(lay(kinds(1), 1), 0, frame(0, 0))
	f := &s.C[0].F[1]
	calls := func() api.Frame {
		f.S = nil
		after := table.Step(s, 0)
		return after.C[0].F[len(after.C[0].F)-1]
	}
	s.C[0].V, s.C[0].E = 1, api.OK
	for name := 0; name < 65536; name += 1 + name%5 {
		f.Op, f.R[0], f.R[2] = api.OPut+name%3, name, name%19-1
		want := 0
		if f.R[2] > 0 && f.R[2] < 17 {
			want = name % f.R[2]
		}
		f.Pc = 1
		if got := calls(); got.Op != api.OBucket || got.Pc != 0 || got.R != [8]int{want} {
			t.Errorf("name %d, size %d: %v", name, f.R[2], got)
		}
		f.Pc = 2
		if got := calls(); got.Pc != 0 || got.R[0] != 129 || got.R[1] != ord(name) {
			t.Errorf("name %d: %v", name, got)
		}
	}
	f.Op = api.OBucket
	for bucket, key := range []int{0, 65536, 32768, 98304, 16384, 81920, 49152, 114688, 8192, 73728, 40960, 106496, 24576, 90112, 57344, 122880} {
		f.R[0], f.Pc = bucket, 2
		if got := calls(); got.Op != api.OIns || got.R != [8]int{129, key} {
			t.Errorf("bucket %d: %v", bucket, got)
		}
	}
}

// TestBothWays: P11.1, where a step goes, by what it sees: these are told one by one, with what the op is told ahead, the words that are changed, and the step, or what is told at the end.
func TestBothWays(t *testing.T) {
	for _, c := range []struct {
		name        string
		f           api.Frame
		v           int
		e           api.Errno
		size, count int
		node        int
		pc          int
		told        int
		is          [4]int
	}{
		{"a node", frame(api.OBucket, 0, 1), 7, 1, 2, 3, 5, -1, 5, [4]int{2, 3, 5, 0}},
		{"no node", frame(api.OBucket, 0, 1), 7, 1, 2, 3, 0, 1, 7, [4]int{2, 3, 0, 1}},
		{"no parent's", frame(api.OBucket, 2, 1), 7, 3, 2, 3, 0, -1, 0, [4]int{2, 3, 0, 3}},
		{"no node is free", frame(api.OBucket, 3, 1), 7, 2, 2, 3, 0, -1, 0, [4]int{2, 3, 0, 2}},
		{"it was laid in", frame(api.OBucket, 3, 1), 7, 0, 2, 3, 0, 4, 7, [4]int{2, 3, 0, 0}},
		{"it had been laid in", frame(api.OBucket, 3, 1), 7, 4, 2, 3, 0, 4, 7, [4]int{2, 3, 0, 4}},
		{"the first one", frame(api.OBucket, 4, 1, 0, 0, 6), 7, 4, 2, 3, 0, -1, 6, [4]int{2, 3, 6, 0}},
		{"not the first one", frame(api.OBucket, 4, 1, 0, 0, 6), 7, 4, 2, 3, 6, -1, 6, [4]int{2, 3, 6, 0}},
		{"no bucket", frame(api.OPut, 2, 5, 50, 2), 7, 2, 2, 3, 0, -1, 0, [4]int{2, 3, 0, 2}},
		{"it was there", frame(api.OPut, 3, 5, 50, 2), 7, 4, 2, 3, 0, -1, 0, [4]int{2, 3, 0, 4}},
		{"it wasn't there", frame(api.OPut, 3, 5, 50, 2), 7, 0, 2, 3, 0, 4, 7, [4]int{2, 3, 0, 0}},
		{"one more", frame(api.OPut, 5, 5, 50, 2, 0, 3), 7, 0, 2, 3, 0, 6, 7, [4]int{2, 4, 0, 0}},
		{"of others", frame(api.OPut, 5, 5, 50, 2, 0, 3), 7, 0, 2, 4, 0, 4, 7, [4]int{2, 4, 0, 0}},
		{"few", frame(api.OPut, 6, 5, 50, 2, 0, 3), 7, 2, 2, 9, 0, -1, 0, [4]int{2, 9, 0, 0}},
		{"twice as many", frame(api.OPut, 6, 5, 50, 2, 0, 4), 7, 2, 2, 9, 0, -1, 0, [4]int{4, 9, 0, 0}},
		{"more than that", frame(api.OPut, 6, 5, 50, 2, 0, 5), 7, 2, 2, 9, 0, -1, 0, [4]int{4, 9, 0, 0}},
		{"it was doubled", frame(api.OPut, 6, 5, 50, 2, 0, 5), 7, 2, 4, 9, 0, -1, 0, [4]int{4, 9, 0, 0}},
		{"it was doubled twice", frame(api.OPut, 6, 5, 50, 2, 0, 5), 7, 2, 8, 9, 0, -1, 0, [4]int{8, 9, 0, 0}},
		{"15 of 8", frame(api.OPut, 6, 5, 50, 8, 0, 15), 7, 2, 8, 9, 0, -1, 0, [4]int{8, 9, 0, 0}},
		{"16 of 8", frame(api.OPut, 6, 5, 50, 8, 0, 16), 7, 2, 8, 9, 0, -1, 0, [4]int{16, 9, 0, 0}},
		{"18 of 9", frame(api.OPut, 6, 5, 50, 9, 0, 18), 7, 2, 9, 9, 0, -1, 0, [4]int{9, 9, 0, 0}},
		{"32 of 16", frame(api.OPut, 6, 5, 50, 16, 0, 99), 7, 2, 16, 9, 0, -1, 0, [4]int{16, 9, 0, 0}},
		{"2 of 1", frame(api.OPut, 6, 5, 50, 1, 0, 2), 7, 2, 1, 9, 0, -1, 0, [4]int{2, 9, 0, 0}},
		{"1 of 1", frame(api.OPut, 6, 5, 50, 1, 0, 1), 7, 2, 1, 9, 0, -1, 0, [4]int{1, 9, 0, 0}},
		{"of none", frame(api.OPut, 6, 5, 50, 0, 0, 9), 7, 2, 0, 9, 0, -1, 0, [4]int{0, 9, 0, 0}},
		{"of a size below 0", frame(api.OPut, 6, 5, 50, -1, 0, 9), 7, 2, -1, 9, 0, -1, 0, [4]int{-1, 9, 0, 0}},
		{"looked up", frame(api.OLook, 3, 5, 0, 2), 7, 0, 2, 3, 0, -1, 7, [4]int{2, 3, 0, 0}},
		{"not there", frame(api.OLook, 3, 5, 0, 2), 0, 3, 2, 3, 0, -1, 0, [4]int{2, 3, 0, 3}},
		{"no bucket to look in", frame(api.OLook, 2, 5, 0, 2), 7, 2, 2, 3, 0, -1, 0, [4]int{2, 3, 0, 2}},
		{"no bucket to cut in", frame(api.OCut, 2, 5, 0, 2), 7, 2, 2, 3, 0, -1, 0, [4]int{2, 3, 0, 2}},
		{"not there to cut", frame(api.OCut, 3, 5, 0, 2), 7, 3, 2, 3, 0, -1, 0, [4]int{2, 3, 0, 3}},
		{"taken out", frame(api.OCut, 3, 5, 0, 2), 7, 0, 2, 3, 0, 4, 7, [4]int{2, 3, 0, 0}},
		{"one less", frame(api.OCut, 5, 5, 0, 2, 70, 3), 7, 2, 2, 3, 0, -1, 70, [4]int{2, 2, 0, 0}},
		{"not of others", frame(api.OCut, 5, 5, 0, 2, 70, 3), 7, 2, 2, 4, 0, 4, 7, [4]int{2, 4, 0, 2}},
	} {
		s := over(lay(six(), 2), 1, c.f)
		s.M.W[sizeAt], s.M.W[countAt], s.M.W[nodesAt+1] = c.size, c.count, c.node
		s.C[1].V, s.C[1].E = c.v, c.e
		got := table.Step(s, 1)
		x := got.C[1]
		f := x.F[len(x.F)-1]
		is := [4]int{got.M.W[sizeAt], got.M.W[countAt], got.M.W[nodesAt+1], int(x.E)}
		if c.pc >= 0 && (len(x.F) != 2 || f.Op != c.f.Op || f.Pc != c.pc) || c.pc < 0 && len(x.F) != 1 || x.V != c.told || is != c.is || got.M.Bad || len(got.L) != 2 {
			t.Errorf("%s: %v, %v", c.name, x, is)
		}
		checkStep(t, s, 1)
	}
}

// TestDeep: P11.1, where a core has 40 frames nothing is called, and the op goes on at its step behind that; one frame less, and it is.
func TestDeep(t *testing.T) {
	for _, frames := range []int{1, 2, 39, 40} {
		for _, f := range []api.Frame{
			frame(api.OBucket, 1, 5), frame(api.OBucket, 2, 5), frame(api.OPut, 1, 5, 9, 4), frame(api.OPut, 2, 5, 9, 4),
			frame(api.OLook, 1, 5, 9, 4), frame(api.OLook, 2, 5, 9, 4), frame(api.OCut, 1, 5, 9, 4), frame(api.OCut, 2, 5, 9, 4),
		} {
			s := lay(six(), 2)
			s.C[1].F = make([]api.Frame, frames-1)
			s = over(s, 1, f)
			s.C[1].V, s.C[1].E = 2, api.OK
			checkStep(t, s, 1)
			got := table.Step(s, 1)
			if want := min(frames+1, 40); len(got.C[1].F) != want || got.C[1].F[frames-1].Pc != f.Pc+1 {
				t.Errorf("%d frames, op %d, step %d: %v", frames, f.Op, f.Pc, got.C[1])
			}
		}
	}
}

// unchanged: is a step s?
func unchanged(t *testing.T, name string, s api.Sys, id int) {
	t.Helper()
	if got := table.Step(s, id); !same(got, s) {
		t.Errorf("%s: core %d: %v", name, id, got.C)
	}
}

// steps is how many steps each of these ops has.
var steps = map[int]int{api.OBucket: 5, api.OPut: 7, api.OLook: 4, api.OCut: 6}

// TestOthers: P11.1, ops of other names than 0 to 65535, or of other buckets than 0 to 15, do nothing.
func TestOthers(t *testing.T) {
	for op, n := range steps {
		for pc := range n {
			for _, r := range append([]int{16, 17, 32, -2, -16, 65536, 65537, 1 << 17, -65536, -1 << 17, 1<<32 + 1, 1 << 40}, far...) {
				if op != api.OBucket && r >= 0 && r < 65536 {
					continue
				}
				for _, e := range []api.Errno{api.OK, api.ErrFull} {
					s := over(lay(six(), 2), 1, frame(op, pc, r, 2, 2, 2, 9))
					s.C[1].V, s.C[1].E = 2, e
					s.M.W[sizeAt], s.M.W[countAt] = 2, 9
					unchanged(t, "another one", s, 1)
				}
			}
		}
	}
}

// TestOtherPc: P11.1, nothing happens, where Pc is none of the op's steps.
func TestOtherPc(t *testing.T) {
	for op, n := range steps {
		for _, pc := range []int{-14, -3, -2, -1, n, n + 1, n + 2, 7, 14, 100, 1 << 32, 1<<32 + 1, 1 << 61, math.MaxInt, math.MinInt} {
			for _, r := range []int{0, 1, 15} {
				for _, e := range []api.Errno{api.OK, api.ErrFull} {
					s := over(lay(six(), 3), 1, frame(op, pc, r, 2, 2, 2, 9))
					s.C[1].V, s.C[1].E = 2, e
					s.M.W[sizeAt], s.M.W[countAt] = 2, 9
					unchanged(t, "another Pc", s, 1)
				}
			}
		}
	}
}

// TestOtherOp: P11.1, a top that is another op, also over one of these.
func TestOtherOp(t *testing.T) {
	for op := -3; op <= 40; op++ {
		if op >= 1 && op <= 18 {
			continue
		}
		for pc := range 14 {
			for below := range steps {
				s := over(lay(six(), 2), 0, frame(below, pc, 1, 5, 2))
				unchanged(t, "another op", over(s, 0, frame(op, pc, 1, 5, 2)), 0)
			}
		}
	}
}

// TestNoCore: P11.1, a core that there isn't, and one without a frame.
func TestNoCore(t *testing.T) {
	for _, cores := range []int{1, 2, 8} {
		for op := api.OPop; op <= api.OCut; op++ {
			s := lay(six(), cores)
			for id := range cores {
				s = over(s, id, frame(op, 0, 5))
			}
			for _, id := range []int{-1, -2, -cores, cores, cores + 1, 8, 100, 1 << 32, math.MaxInt, math.MinInt} {
				unchanged(t, "no core", s, id)
			}
			for id := range cores {
				x := clone(s)
				x.C[id] = api.Core{V: 5, Ret: []int{3, 6}}
				unchanged(t, "no frame", x, id)
			}
		}
	}
}

// TestBelow: P11.1, steps of chapter 4's to 9's ops are as these tell: each step, whatever is below.
func TestBelow(t *testing.T) {
	for op := api.OPop; op <= api.ODel; op++ {
		for pc := -1; pc <= 14; pc++ {
			for _, r := range [][]int{{0, 0}, {2, 1, 4, 4}, {5, 0, packed(1, 2, 0), packed(1, 2, 0), packed(2, 5, 0)}, {3, 2, 3 << 1, 3 << 1}, {100, 5, 2, 100, packed(1, 2, 0), packed(2, 5, 1), 5}, {-1, 300, 1 << 61, -1 << 61}} {
				for below := range steps {
					for id := range 3 {
						s := over(over(lay(six(), 3), id, frame(below, 1, 1)), id, frame(op, pc, r...))
						if got, want := table.Step(s, id), list.Step(s, id); !same(got, want) {
							t.Errorf("op %d, step %d, %v: %v; want %v", op, pc, r, got.C[id], want.C[id])
						}
					}
				}
			}
		}
	}
}

// TestOwn: P11.1, the eighteen ops up to chapter 11's are, and no other number is.
func TestOwn(t *testing.T) {
	for op := -100; op <= 100; op++ {
		if is, want := table.Own(op), op >= 1 && op <= 18; is != want {
			t.Errorf("Own(%d) = %t", op, is)
		}
	}
	for _, op := range []int{math.MinInt, math.MaxInt, 1<<32 + 15, 1<<32 + 18, -1 << 40, 1 << 61} {
		if table.Own(op) {
			t.Errorf("Own(%d)", op)
		}
	}
}

// TestSpot: P11.1, the spots of all buckets.
func TestSpot(t *testing.T) {
	for bucket, want := range []int{50, 51, 52, 53, 54, 55, 56, 57, 58, 59, 60, 61, 62, 63, 64, 65} {
		if at := table.Spot(bucket); at != want {
			t.Errorf("Spot(%d) = %d, want %d", bucket, at, want)
		}
	}
}

// start is a new system with a table, of counts that there may be.
func start(t *testing.T, cores, nodes int) api.Sys {
	t.Helper()
	s, e := alloc.Start(cores, nodes)
	if e == api.OK {
		s, e = table.Make(s)
	}
	if e != api.OK || s.M.Bad {
		t.Fatalf("%d cores, %d nodes: %d, Bad %t", cores, nodes, e, s.M.Bad)
	}
	return s
}

// run does an op of a core alone to its end.
func run(t *testing.T, s api.Sys, id, op int, args ...int) api.Sys {
	t.Helper()
	frames := len(s.C[id].F)
	s = core.Call(s, id, op, args...)
	for range 9000 {
		if len(s.C[id].F) <= frames {
			return s
		}
		s = table.Step(s, id)
	}
	t.Fatalf("core %d doesn't end: %v", id, s.C[id])
	return s
}

// told is run, with what it must tell.
func told(t *testing.T, s api.Sys, v int, e api.Errno, id, op int, args ...int) api.Sys {
	t.Helper()
	s = run(t, s, id, op, args...)
	if c := s.C[id]; c.V != v || c.E != e || s.M.Bad {
		t.Fatalf("core %d, op %d of %v: %d, %d, Bad %t; want %d, %d", id, op, args, c.V, c.E, s.M.Bad, v, e)
	}
	return s
}

// until does a core's steps up to one of an op of its.
func until(t *testing.T, s api.Sys, id, op, pc int) api.Sys {
	t.Helper()
	for range 900 {
		if f, is := core.Top(s, id); is && f.Op == op && f.Pc == pc {
			return s
		}
		s = table.Step(s, id)
	}
	t.Fatalf("core %d doesn't come to step %d of op %d: %v", id, pc, op, s.C[id])
	return s
}

// checkNames checks what a table holds: names and what they tell by turns.
func checkNames(t *testing.T, s api.Sys, want ...int) {
	t.Helper()
	names, tell, is := table.Names(s)
	var got []int
	for i := range min(len(names), len(tell)) {
		got = append(got, names[i], tell[i])
	}
	if !is || len(names) != len(tell) || !slices.Equal(got, want) {
		t.Errorf("%v, %v, %t; want %v", names, tell, is, want)
	}
}

// checkNone checks that a table can't be told.
func checkNone(t *testing.T, name string, s api.Sys) {
	t.Helper()
	if names, tell, is := table.Names(s); is || len(names) != 0 || len(tell) != 0 {
		t.Errorf("%s: %v, %v, %t", name, names, tell, is)
	}
}

// checkMake checks a table that is made of a system whose first free node is that one: the words that are changed, the node that is turned, and nothing else.
func checkMake(t *testing.T, s api.Sys, node, head int) {
	t.Helper()
	want := clone(s)
	want.M.W[0], want.M.W[cell(node, 1)], want.M.W[cell(node, 2)], want.M.W[cell(node, 3)] = head, newer(s.M.W[cell(node, 1)], 0), 0, 0
	copy(want.M.W[sizeAt:66], []int{2, 0, node, 0, 0, 0, 0, 0, 0, 0, 0, 0, 0, 0, 0, 0, 0, 0})
	want.M.Bad = want.M.Bad || want.M.G[node] != api.Free
	if want.M.G[node] == api.Free {
		want.M.G[node] = api.Live
	}
	got, e := table.Make(s)
	if e != api.OK || !same(got, want) {
		t.Errorf("%d, %v; want %v", e, got, want)
	}
	checkNames(t, got)
}

// TestMake: P11.2, of each count of nodes up to some, and of most; made once more, it has another node.
func TestMake(t *testing.T) {
	for _, nodes := range []int{1, 2, 3, 8, 200} {
		s, _ := alloc.Start(2, nodes)
		for node := 1; node <= min(nodes, 5); node++ {
			next := node + 1
			if node == nodes {
				next = 0
			}
			checkMake(t, s, node, packed(node, next, 0))
			s, _ = table.Make(s)
		}
		if nodes <= 5 {
			if got, e := table.Make(s); e != api.ErrFull || !same(got, s) {
				t.Errorf("%d nodes: %d, %v", nodes, e, got)
			}
		}
	}
}

// TestMakeLaid: P11.2, of a list in any order, with a tag and a mark, and a Next that was used: they are the next words of what was there. Cores, events and all other words stay.
func TestMakeLaid(t *testing.T) {
	for i, c := range []struct{ head, next, newHead, newNext int }{
		{packed(7, 4, 1), packed(5, 3, 1), packed(8, 1, 0), packed(6, 0, 0)},
		{packed(1<<40-1, 4, 0), packed(1<<40-1, 0, 0), packed(0, 1, 0), packed(0, 0, 0)},
		{packed(0, 4, 0), -1, packed(1, 1, 0), packed(0, 0, 0)},
		{packed(0, 4, 0) - 1<<61, math.MaxInt, packed(1, 1, 0), packed(0, 0, 0)},
	} {
		s := lay(six(), 3)
		s.M.W[0], s.M.W[cell(4, 0)], s.M.W[cell(1, 0)], s.M.W[cell(4, 1)] = c.head, 1, 0, c.next
		s.M.Bad = i == 1
		checkMake(t, s, 4, c.newHead)
		if got, _ := table.Make(s); got.M.W[cell(4, 1)] != c.newNext || got.M.G[4] != api.Live {
			t.Errorf("%d: %d, %v", i, got.M.W[cell(4, 1)], got.M.G)
		}
	}
}

// TestMakeNotFree: P11.2, where the list tells first a node that isn't Free it is Bad to turn it Live; the rest is as ever.
func TestMakeNotFree(t *testing.T) {
	for _, node := range []int{2, 3, 5, 6} {
		s := lay(six(), 1)
		s.M.W[0], s.M.W[cell(node, 0)] = packed(3, node, 0), 0
		checkMake(t, s, node, packed(4, 0, 0))
	}
}

// TestMakeNot: P11.2, ErrFull, if there is no list, or it is empty. The system stays as it was.
func TestMakeNot(t *testing.T) {
	empty := lay(six(), 2)
	empty.M.W[0] = packed(5, 0, 1)
	loop := lay(six(), 2)
	loop.M.W[0], loop.M.W[cell(1, 0)], loop.M.W[cell(4, 0)] = packed(5, 1, 0), 4, 1
	out := lay(six(), 2)
	out.M.W[0], out.M.W[cell(1, 0)] = packed(5, 1, 0), 7
	beyond := lay(six(), 2)
	beyond.M.W[0] = packed(5, 7, 0)
	below := lay(six(), 2)
	below.M.W[0], below.M.W[cell(1, 0)] = packed(5, 1, 0), -1
	for i, s := range []api.Sys{empty, loop, out, beyond, below} {
		if got, e := table.Make(s); e != api.ErrFull || !same(got, s) {
			t.Errorf("%d: %d, %v", i, e, got)
		}
	}
}

// chain is a system whose bucket 0 is node 2: behind it are nodes of these keys, with values that are 10 times their places.
func chain(keys ...int) api.Sys {
	s := lay(kinds(0, 1, 1, 2, 0, 1, 1, 1, 1), 2)
	s.M.W[nodesAt] = 2
	for i, key := range keys {
		s.M.W[cell(2+i, 1)], s.M.W[cell(3+i, 2)], s.M.W[cell(3+i, 3)] = packed(7*i, 3+i, 0), key, 10*i
	}
	s.M.W[cell(2+len(keys), 1)] = packed(4, 0, 0)
	return s
}

// TestNames: P11.3, names of odd keys, in the order of the list, whatever the nodes are; of even keys, whatever these are, and of bucket 0's own node none; of nodes that are gone none. The table's other words tell nothing here, and nothing is touched.
func TestNames(t *testing.T) {
	checkNames(t, chain())
	checkNames(t, chain(1), 0, 0)
	checkNames(t, chain(131071), 65535, 0)
	checkNames(t, chain(131071, 1, 65537), 65535, 0, 0, 10, 1, 20)
	checkNames(t, chain(0, 2, -2, 131072, math.MinInt, 1<<40))
	checkNames(t, chain(3, 131072, 3, -2, 32769), 32768, 0, 32768, 20, 2, 40)
	s := chain(1, 3, 32769, 65537)
	s.M.W[cell(3, 1)], s.M.W[cell(5, 1)] = s.M.W[cell(3, 1)]+1, s.M.W[cell(5, 1)]+1
	s.M.W[sizeAt], s.M.W[countAt], s.M.W[nodesAt+1] = 16, -5, 4
	for id := 3; id <= 6; id++ {
		s.M.W[cell(id, 3)] = far[id]
	}
	kept := clone(s)
	checkNames(t, s, 32768, far[4], 1, far[6])
	if !same(s, kept) {
		t.Error("touched")
	}
	for name := 0; name < 65536; name += 7 {
		s.M.W[cell(6, 2)] = ord(name)
		if names, tell, is := table.Names(s); !is || !slices.Equal(names, []int{32768, name}) || !slices.Equal(tell, []int{far[4], far[6]}) {
			t.Errorf("%d: %v, %v, %t", name, names, tell, is)
		}
	}
}

// TestNamesNot: P11.3, none, if bucket 0's node is none of the arena, or its list can't be told, or an odd key is no name's.
func TestNamesNot(t *testing.T) {
	for _, node := range append([]int{0, 10, 11, 128, 1<<20 - 1, -2, -5, -31, packed(0, 2, 0) + 1<<21}, far...) {
		s := chain(1)
		clear(s.M.W[:nodesAt]) // an empty list at whichever place ahead of the table
		clear(s.M.W[nodesAt+16 : 128])
		s.M.W[nodesAt] = node
		checkNone(t, "no node", s)
		s.M.W[nodesAt+1] = 2
		checkNone(t, "another bucket's", s)
	}
	for _, key := range []int{-1, -3, -131071, 131073, 131075, 1<<32 + 1, 1<<61 + 1, -1<<61 + 1, math.MaxInt, math.MinInt + 1} {
		checkNone(t, "no name's", chain(key))
		checkNone(t, "no name's, the last one", chain(1, 65537, key))
		s := chain(1, key, 65537)
		checkNone(t, "no name's, among others", s)
		s.M.W[cell(4, 1)]++
		checkNames(t, s, 0, 0, 1, 20)
	}
	for _, bad := range []int{packed(0, 10, 0), packed(3, 10, 1), -1, math.MaxInt, packed(0, 3, 0), packed(5, 4, 1)} {
		s := chain(1, 65537)
		s.M.W[cell(4, 1)] = bad
		checkNone(t, "no list", s)
	}
	s := chain()
	for node := range 9 {
		s.M.W[nodesAt] = node + 1
		s.M.W[cell(node+1, 1)] = packed(node, 0, node%2)
		checkNames(t, s)
	}
}

// TestExample: P11.4, five names laid in: the size is 4, and not yet of four.
func TestExample(t *testing.T) {
	s := start(t, 2, 20)
	for i, name := range []int{7, 65535, 0, 256} {
		s = told(t, s, 0, api.OK, i%2, api.OPut, name, 10*i)
	}
	if s.M.W[sizeAt] != 2 || s.M.W[countAt] != 4 {
		t.Errorf("%v", s.M.W[sizeAt:66])
	}
	s = told(t, s, 0, api.OK, 0, api.OPut, 3, 40)
	if s.M.W[sizeAt] != 4 || s.M.W[countAt] != 5 {
		t.Errorf("%v", s.M.W[sizeAt:66])
	}
	checkNames(t, s, 0, 20, 256, 30, 3, 40, 7, 0, 65535, 10)
	want := []api.Ev{{Kind: api.EIns, A: 114689}, {Core: 1, Kind: api.EIns, A: 131071, V: 10}, {Kind: api.EIns, A: 1, V: 20}, {Core: 1, Kind: api.EIns, A: 257, V: 30}, {Kind: api.EIns, A: 98305, V: 40}}
	if !slices.Equal(s.L, want) {
		t.Errorf("%v", s.L)
	}
}

// inOrder are what a table of these names holds: names and what they tell by turns, by keys.
func inOrder(m map[int]int) []int {
	var keys, l []int
	for name := range m {
		keys = append(keys, ord(name))
	}
	slices.Sort(keys)
	for _, key := range keys {
		name := int(bits.Reverse16(uint16(key / 2)))
		l = append(l, name, m[name])
	}
	return l
}

// checkBuckets checks the nodes of bucket 0's list, which are Live: even keys are those of buckets, each one's spot tells its node, but for buckets of which a core is at work; no other spot tells any.
func checkBuckets(t *testing.T, s api.Sys) {
	t.Helper()
	rest := !slices.ContainsFunc(s.C, func(c api.Core) bool { return len(c.F) > 0 })
	left, buckets := slices.Clone(s.M.W[nodesAt:nodesAt+16]), []int{}
	for bucket := range left {
		buckets = append(buckets, sent(bucket))
	}
	for node := left[0]; node != 0; node = index(s.M.W[cell(node, 1)]) {
		key := s.M.W[cell(node, 2)]
		if s.M.G[node] != api.Live {
			t.Errorf("node %d: %d", node, s.M.G[node])
		}
		if key%2 != 0 {
			continue
		}
		bucket := slices.Index(buckets, key)
		if bucket < 0 || left[bucket] != node && (rest || left[bucket] != 0) {
			t.Fatalf("node %d, of bucket %d, key %d: spots %v", node, bucket, key, s.M.W[nodesAt:66])
		}
		left[bucket] = 0
	}
	if slices.Max(left) > 0 {
		t.Fatalf("spots %v of nodes that aren't in the list: %v", s.M.W[nodesAt:66], left)
	}
}

// TestOneAtATime: P11.4, one core after another lays in, looks up and cuts, names of all kinds: each tells what a map does, with the event; there are as many names as are held, and the size is the least one that does, and never less than it was.
func TestOneAtATime(t *testing.T) {
	s, holds, rule, size := start(t, 3, 200), map[int]int{}, uint64(9), 2
	for i := range 900 {
		rule = rule*6364136223846793005 + 1442695040888963407
		id, name, v := i%3, int(rule>>33)%40*1638+int(rule>>40)%2, 1000+i
		had, is := holds[name]
		want := api.Ev{Core: id, A: ord(name)}
		before := len(s.L)
		op := api.OPut + int(rule>>60)%3
		if i < 300 && i%4 > 0 {
			op = api.OPut
		}
		switch {
		case op == api.OPut && is:
			s = told(t, s, 0, api.ErrHad, id, op, name, v)
			want.Kind = api.EHad
		case op == api.OPut:
			s = told(t, s, 0, api.OK, id, op, name, v)
			want.Kind, want.V = api.EIns, v
			if len(holds) >= 2*size && size < 16 {
				size *= 2
			}
			holds[name] = v
		case !is:
			s = told(t, s, 0, api.ErrNone, id, op, name)
			want.Kind = api.EGone
		default:
			s = told(t, s, had, api.OK, id, op, name)
			want.Kind = api.ESeen
			if op == api.OCut {
				want.Kind = api.EDel
				delete(holds, name)
			}
		}
		if s.M.W[sizeAt] != size || s.M.W[countAt] != len(holds) || !slices.Equal(s.L[before:], []api.Ev{want}) {
			t.Errorf("op %d of %d: %v, want %v; %v, want %d, %d", op, name, s.L[before:], want, s.M.W[sizeAt:66], size, len(holds))
		}
		checkNames(t, s, inOrder(holds)...)
		checkBuckets(t, s)
	}
	if size != 16 {
		t.Errorf("size %d", size)
	}
}

// TestSizes: P11.4, at how many names the size is doubled; how many there were once doesn't matter, and of fewer it stays.
func TestSizes(t *testing.T) {
	s := start(t, 1, 100)
	for _, c := range []struct{ names, size int }{{1, 2}, {4, 2}, {5, 4}, {8, 4}, {0, 4}, {8, 4}, {9, 8}, {16, 8}, {3, 8}, {17, 16}, {32, 16}, {40, 16}, {0, 16}, {1, 16}} {
		for n := s.M.W[countAt]; n < c.names; n++ {
			s = told(t, s, 0, api.OK, 0, api.OPut, 1000+n, n)
		}
		for n := s.M.W[countAt]; n > c.names; n-- {
			s = told(t, s, n-1, api.OK, 0, api.OCut, 999+n)
		}
		if s.M.W[sizeAt] != c.size || s.M.W[countAt] != c.names {
			t.Errorf("%d names: %v, want %d", c.names, s.M.W[sizeAt:66], c.size)
		}
		checkBuckets(t, s)
	}
}

// TestBuckets: P11.1, which buckets a bucket makes: itself, and those that it was split from; whoever asks again finds them.
func TestBuckets(t *testing.T) {
	for bucket := range 16 {
		s := start(t, 2, 20)
		s = run(t, s, 0, api.OBucket, bucket)
		node, made := s.C[0].V, 0
		for at := bucket; at != 0; at = parent(at) {
			if s.M.W[nodesAt+at] == 0 || s.M.W[cell(s.M.W[nodesAt+at], 2)] != sent(at) || s.M.W[cell(s.M.W[nodesAt+at], 3)] != 0 {
				t.Errorf("bucket %d, of %d: %v", at, bucket, s.M.W[nodesAt:66])
			}
			made++
		}
		if mem.Count(s.M, api.Live) != made+1 || s.M.W[nodesAt+bucket] != node || s.C[0].E != api.OK || len(s.L) > 0 || s.M.W[sizeAt] != 2 || s.M.W[countAt] != 0 {
			t.Errorf("bucket %d: %v, %v", bucket, s.M.W[sizeAt:66], s.M.G)
		}
		again := clone(told(t, s, node, api.OK, 1, api.OBucket, bucket))
		again.C[1] = s.C[1]
		if !same(again, s) {
			t.Errorf("bucket %d again: %v", bucket, again)
		}
		checkBuckets(t, s)
		checkNames(t, s)
	}
}

// TestFull: P11.4, where no node is free for a bucket, or for a name, that is told, and no name is; what is there is looked up and cut, as far as its bucket is there.
func TestFull(t *testing.T) {
	s := start(t, 2, 1)
	for _, op := range []int{api.OPut, api.OLook, api.OCut, api.OBucket} {
		s = told(t, s, 0, api.ErrFull, 1, op, 1, 5)
	}
	s = told(t, s, 0, api.ErrFull, 0, api.OPut, 2, 5)
	s = told(t, s, 0, api.ErrNone, 0, api.OLook, 2)
	s = told(t, s, 0, api.ErrNone, 0, api.OCut, 2)
	s = told(t, s, 1, api.OK, 0, api.OBucket, 0)
	checkNames(t, s)
	s = start(t, 2, 2)
	s = told(t, s, 0, api.OK, 0, api.OPut, 2, 5)
	s = told(t, s, 0, api.ErrFull, 0, api.OPut, 2, 6)
	s = told(t, s, 0, api.ErrFull, 1, api.OPut, 1, 6)
	s = told(t, s, 0, api.ErrFull, 1, api.OCut, 1)
	s = told(t, s, 5, api.OK, 1, api.OLook, 2)
	checkNames(t, s, 2, 5)
	if s.M.W[countAt] != 1 || !slices.Equal(s.M.W[nodesAt:66], append([]int{1}, make([]int, 15)...)) {
		t.Errorf("%v", s.M.W[sizeAt:66])
	}
	s = told(t, s, 5, api.OK, 1, api.OCut, 2)
	s = told(t, s, 0, api.OK, 1, api.OPut, 4, 7)
	checkNames(t, s, 4, 7)
	s = start(t, 2, 3)
	s = told(t, s, 0, api.OK, 1, api.OPut, 1, 6)
	s = told(t, s, 0, api.ErrFull, 1, api.OPut, 3, 6)
	checkNames(t, s, 1, 6)
	if s.M.W[countAt] != 1 {
		t.Errorf("%v", s.M.W[sizeAt:66])
	}
}

// TestUnmade: P11.1, of a system without a table no name is laid in, looked up or cut: bucket 0 has no node.
func TestUnmade(t *testing.T) {
	s, _ := alloc.Start(2, 5)
	for i, op := range []int{api.OPut, api.OLook, api.OCut} {
		for _, size := range []int{0, 1, 2, 16} {
			s.M.W[sizeAt] = size
			s = told(t, s, 0, api.ErrNone, i%2, op, 65535, 5)
		}
	}
	for bucket := range 16 {
		s = told(t, s, 0, api.ErrNone, 0, api.OBucket, bucket)
	}
	checkNone(t, "no table", s)
	if len(s.L) > 0 || mem.Count(s.M, api.Free) != 5 || slices.Max(s.M.W[countAt:66]) != 0 {
		t.Errorf("%v, %v", s.L, s.M)
	}
}

// TestRaced: P11.4, two make one bucket, at each step of the one: both find the same node, and no other is lost.
func TestRaced(t *testing.T) {
	for still := range 40 {
		s := core.Call(start(t, 2, 20), 0, api.OBucket, 7)
		for range still {
			s = table.Step(s, 0)
		}
		s = run(t, s, 1, api.OBucket, 7)
		for range 200 {
			s = table.Step(s, 0)
		}
		if len(s.C[0].F) > 0 || s.C[0].V != s.C[1].V || s.C[0].E != api.OK || s.M.W[57] != s.C[0].V || mem.Count(s.M, api.Live) != 4 || s.M.Bad {
			t.Errorf("%d: %v, %v, %v", still, s.C, s.M.W[nodesAt:66], s.M.G)
		}
		checkBuckets(t, s)
	}
}

// TestCounted: P11.4, how many names there are and the size are told right, where another core was there first: it is tried again, or left.
func TestCounted(t *testing.T) {
	s := start(t, 2, 30)
	for name := range 4 {
		s = told(t, s, 0, api.OK, 0, api.OPut, name, name)
	}
	s = until(t, core.Call(s, 0, api.OPut, 8, 80), 0, api.OPut, 5)
	s = told(t, s, 0, api.OK, 1, api.OPut, 9, 90)
	if s.M.W[sizeAt] != 4 || s.M.W[countAt] != 5 {
		t.Errorf("%v", s.M.W[sizeAt:66])
	}
	s = table.Step(s, 0)
	s = until(t, s, 0, api.OPut, 6)
	if s.M.W[countAt] != 6 {
		t.Errorf("%v", s.M.W[sizeAt:66])
	}
	s = table.Step(s, 0)
	if len(s.C[0].F) != 0 || s.M.W[sizeAt] != 4 || s.C[0].V != 0 || s.C[0].E != api.OK {
		t.Errorf("%v, %v", s.M.W[sizeAt:66], s.C[0])
	}
	s = until(t, core.Call(s, 0, api.OCut, 8), 0, api.OCut, 5)
	s = told(t, s, 90, api.OK, 1, api.OCut, 9)
	s = until(t, table.Step(s, 0), 0, api.OCut, 5)
	s = table.Step(s, 0)
	if len(s.C[0].F) != 0 || s.M.W[countAt] != 4 || s.C[0].V != 80 || s.C[0].E != api.OK || s.M.Bad {
		t.Errorf("%v, %v", s.M.W[sizeAt:66], s.C[0])
	}
	checkNames(t, s, 0, 0, 2, 2, 1, 1, 3, 3)
}
