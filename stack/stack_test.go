package stack_test

import (
	"math"
	"reflect"
	"slices"
	"testing"

	"hazel/api"
	"hazel/core"
	"hazel/mem"
	"hazel/pack"
	"hazel/stack"
)

const (
	lastTag = 1<<40 - 1
	mostNo  = 1<<20 - 1 // the greatest index
)

// head is a head word, written out: its tag, index and mark.
func head(tag, index, mark int) int { return tag<<21 + index<<1 + mark }

// linkAt is the place of a node's Link, written out.
func linkAt(node int) int { return 124 + 4*node }

// numbers are n of them, no two the same.
func numbers(n, from int) []int {
	l := []int{}
	for i := range n {
		l = append(l, from+3*i)
	}
	return l
}

// listed is an arena of n nodes whose list is what is told, of that head's tag; nodes in the list are Free, the others Live; all other words are anything.
func listed(n, tag int, list ...int) api.Mem {
	m := api.Mem{W: numbers(128+4*n, 7001), G: make([]int, 1+n)}
	for node := 1; node <= n; node++ {
		m.G[node] = api.Live
	}
	at, tells := 0, func(node int) int { return head(tag, node, 0) }
	for _, node := range list {
		m.W[at] = tells(node)
		m.G[node] = api.Free
		at, tells = linkAt(node), func(node int) int { return node }
	}
	m.W[at] = tells(0)
	return m
}

// rising are the numbers from the first to the last.
func rising(first, last int) []int {
	l := []int{}
	for i := first; i <= last; i++ {
		l = append(l, i)
	}
	return l
}

// lay is a system on an arena, with so many cores, each with two frames below, retired nodes and numbers, and with events.
func lay(m api.Mem, cores int) api.Sys {
	s := api.Sys{M: m}
	for id := range cores {
		c := api.Core{V: 50 + id, E: api.Errno(id), X: [3]int{60 + id, 70 + id, 80 + id}, Ret: numbers(id, 90+id)}
		for i := range 2 {
			c.F = append(c.F, api.Frame{Op: api.OAlloc + i, Pc: 3 + id, R: [8]int{id, i, 2, 3, 4, 5, 6, 7}, S: numbers(i, 100+id)})
		}
		s.C = append(s.C, c)
		s.L = append(s.L, api.Ev{Core: id, Kind: 1 + id, A: 20 + id, B: 30 + id, V: 40 + id})
	}
	return s
}

// clone is the same system in other memory; in it no list is nil, so that such without elements are alike (R3).
func clone(s api.Sys) api.Sys {
	c := api.Sys{M: cloneMem(s.M), C: []api.Core{}, L: append([]api.Ev{}, s.L...)}
	for _, x := range s.C {
		y := api.Core{F: []api.Frame{}, V: x.V, E: x.E, X: x.X, Ret: append([]int{}, x.Ret...)}
		for _, f := range x.F {
			y.F = append(y.F, api.Frame{Op: f.Op, Pc: f.Pc, R: f.R, S: append([]int{}, f.S...)})
		}
		c.C = append(c.C, y)
	}
	return c
}

func cloneMem(m api.Mem) api.Mem {
	return api.Mem{W: append([]int{}, m.W...), G: append([]int{}, m.G...), Bad: m.Bad}
}

// same: are two systems the same, all of it, held against each other without the program?
func same(a, b api.Sys) bool { return reflect.DeepEqual(clone(a), clone(b)) }

func sameMem(a, b api.Mem) bool { return reflect.DeepEqual(cloneMem(a), cloneMem(b)) }

// with is the system with something changed.
func with(s api.Sys, do func(s *api.Sys)) api.Sys {
	c := clone(s)
	do(&c)
	return c
}

// over is the system with a frame over those of a core.
func over(s api.Sys, id int, f api.Frame) api.Sys {
	return with(s, func(s *api.Sys) { s.C[id].F = append(s.C[id].F, f) })
}

// top is a core's last frame, to be changed.
func top(s *api.Sys, id int) *api.Frame { return &s.C[id].F[len(s.C[id].F)-1] }

// ends takes a core's last frame away.
func ends(s *api.Sys, id, v int, e api.Errno) {
	s.C[id].F = s.C[id].F[:len(s.C[id].F)-1]
	s.C[id].V, s.C[id].E = v, e
}

// TestFill: P4.1, arenas of all sizes, new ones.
func TestFill(t *testing.T) {
	for n := 1; n <= 200; n++ {
		m, _ := mem.New(n)
		want := cloneMem(m)
		want.W[0] = 2
		for node := 1; node < n; node++ {
			want.W[128+4*(node-1)] = node + 1
		}
		if got := stack.Fill(m); !sameMem(got, want) {
			t.Errorf("of %d nodes: %v", n, got)
		}
		if l, is := stack.Walk(stack.Fill(m)); !is || !slices.Equal(l, rising(1, n)) {
			t.Errorf("of %d nodes: Walk %v, %t", n, l, is)
		}
	}
}

// TestFillAnything: P4.1, arenas that are filled already, or hold anything, with nodes of all kinds, Bad or not: Links and the head are laid anew, all else stays.
func TestFillAnything(t *testing.T) {
	for _, n := range []int{1, 2, 3, 50, 199, 200} {
		anything := api.Mem{W: numbers(128+4*n, -900), G: make([]int, 1+n), Bad: n%2 == 0}
		for node := 1; node <= n; node++ {
			anything.G[node] = node % 3
		}
		want := cloneMem(anything)
		want.W[0] = 2
		for node := 1; node <= n; node++ {
			want.W[linkAt(node)] = (node + 1) % (n + 1)
		}
		once := stack.Fill(anything)
		if !sameMem(once, want) {
			t.Errorf("of %d nodes: %v", n, once)
		}
		if twice := stack.Fill(once); !sameMem(twice, want) {
			t.Errorf("of %d nodes, twice: %v", n, twice)
		}
	}
}

// change is a step as it must be: of a top on an arena, and what it changes.
type change struct {
	name string
	m    api.Mem
	f    api.Frame
	do   func(s *api.Sys, id int)
}

// popChanges are steps of OPop, on lists that are right.
func popChanges() []change {
	return []change{
		{"head", listed(3, 5, 2, 3, 1), api.Frame{Op: api.OPop, R: [8]int{8, 9}}, func(s *api.Sys, id int) {
			top(s, id).Pc, top(s, id).R[0] = 1, head(5, 2, 0)
		}},
		{"head of one node", listed(1, 0, 1), api.Frame{Op: api.OPop}, func(s *api.Sys, id int) {
			top(s, id).Pc, top(s, id).R[0] = 1, 2
		}},
		{"head of the last tag", listed(200, lastTag, 200), api.Frame{Op: api.OPop}, func(s *api.Sys, id int) {
			top(s, id).Pc, top(s, id).R[0] = 1, head(lastTag, 200, 0)
		}},
		{"none is free", listed(3, 5), api.Frame{Op: api.OPop, R: [8]int{8, 9}}, func(s *api.Sys, id int) {
			s.L = append(s.L, api.Ev{Core: id, Kind: api.ENoMem})
			ends(s, id, 0, api.ErrFull)
		}},
		{"none is free, of tag 0", listed(1, 0), api.Frame{Op: api.OPop}, func(s *api.Sys, id int) {
			s.L = append(s.L, api.Ev{Core: id, Kind: api.ENoMem})
			ends(s, id, 0, api.ErrFull)
		}},
		{"link", listed(3, 5, 2, 3, 1), api.Frame{Op: api.OPop, Pc: 1, R: [8]int{head(5, 2, 0), 9}}, func(s *api.Sys, id int) {
			top(s, id).Pc, top(s, id).R[1] = 2, 3
		}},
		{"link of the last one", listed(3, 5, 2, 3, 1), api.Frame{Op: api.OPop, Pc: 1, R: [8]int{head(9, 1, 1), 9}}, func(s *api.Sys, id int) {
			top(s, id).Pc, top(s, id).R[1] = 2, 0
		}},
		{"link of node 200", listed(200, 5, 200, 7), api.Frame{Op: api.OPop, Pc: 1, R: [8]int{head(5, 200, 0)}}, func(s *api.Sys, id int) {
			top(s, id).Pc, top(s, id).R[1] = 2, 7
		}},
		{"swap", listed(3, 5, 2, 3, 1), api.Frame{Op: api.OPop, Pc: 2, R: [8]int{head(5, 2, 0), 3}}, func(s *api.Sys, id int) {
			s.M.W[0], s.M.G[2] = head(6, 3, 0), api.Live
			ends(s, id, 2, api.OK)
		}},
		{"swap of the last free node", listed(200, 5, 200), api.Frame{Op: api.OPop, Pc: 2, R: [8]int{head(5, 200, 0), 0}}, func(s *api.Sys, id int) {
			s.M.W[0], s.M.G[200] = head(6, 0, 0), api.Live
			ends(s, id, 200, api.OK)
		}},
		{"swap, the tag goes round", listed(3, lastTag, 1, 2), api.Frame{Op: api.OPop, Pc: 2, R: [8]int{head(lastTag, 1, 0), 2}}, func(s *api.Sys, id int) {
			s.M.W[0], s.M.G[1] = head(0, 2, 0), api.Live
			ends(s, id, 1, api.OK)
		}},
		{"no swap, another tag", listed(3, 5, 2, 3, 1), api.Frame{Op: api.OPop, Pc: 2, R: [8]int{head(4, 2, 0), 3}}, func(s *api.Sys, id int) {
			top(s, id).Pc = 0
		}},
		{"no swap, another index", listed(3, 5, 2, 3, 1), api.Frame{Op: api.OPop, Pc: 2, R: [8]int{head(5, 1, 0), 3}}, func(s *api.Sys, id int) {
			top(s, id).Pc = 0
		}},
		{"no swap, another mark", listed(3, 5, 2, 3, 1), api.Frame{Op: api.OPop, Pc: 2, R: [8]int{head(5, 2, 1), 3}}, func(s *api.Sys, id int) {
			top(s, id).Pc = 0
		}},
		{"no swap, none is free by now", listed(3, 5), api.Frame{Op: api.OPop, Pc: 2, R: [8]int{head(4, 2, 0), 0}}, func(s *api.Sys, id int) {
			top(s, id).Pc = 0
		}},
	}
}

// pushChanges are steps of OPush, on lists that are right.
func pushChanges() []change {
	return []change{
		{"head", listed(3, 5, 2, 3), api.Frame{Op: api.OPush, R: [8]int{1, 9}}, func(s *api.Sys, id int) {
			top(s, id).Pc, top(s, id).R[1] = 1, head(5, 2, 0)
		}},
		{"head of none", listed(3, 5), api.Frame{Op: api.OPush, R: [8]int{1, 9}}, func(s *api.Sys, id int) {
			top(s, id).Pc, top(s, id).R[1] = 1, head(5, 0, 0)
		}},
		{"link", listed(3, 5, 2, 3), api.Frame{Op: api.OPush, Pc: 1, R: [8]int{1, head(5, 2, 0)}}, func(s *api.Sys, id int) {
			s.M.W[linkAt(1)] = 2
			top(s, id).Pc = 2
		}},
		{"link of a marked head that was", listed(3, 5, 2, 3), api.Frame{Op: api.OPush, Pc: 1, R: [8]int{1, head(lastTag, mostNo, 1)}}, func(s *api.Sys, id int) {
			s.M.W[linkAt(1)] = mostNo
			top(s, id).Pc = 2
		}},
		{"link to none", listed(200, 5), api.Frame{Op: api.OPush, Pc: 1, R: [8]int{200, head(5, 0, 0)}}, func(s *api.Sys, id int) {
			s.M.W[linkAt(200)] = 0
			top(s, id).Pc = 2
		}},
		{"swap", listed(3, 5, 2, 3), api.Frame{Op: api.OPush, Pc: 2, R: [8]int{1, head(5, 2, 0)}}, func(s *api.Sys, id int) {
			s.M.W[0], s.M.G[1] = head(6, 1, 0), api.Free
			ends(s, id, 1, api.OK)
		}},
		{"swap to the first free one", listed(1, 0), api.Frame{Op: api.OPush, Pc: 2, R: [8]int{1, 0}}, func(s *api.Sys, id int) {
			s.M.W[0], s.M.G[1] = head(1, 1, 0), api.Free
			ends(s, id, 1, api.OK)
		}},
		{"swap, the tag goes round", listed(200, lastTag, 1, 2), api.Frame{Op: api.OPush, Pc: 2, R: [8]int{200, head(lastTag, 1, 0)}}, func(s *api.Sys, id int) {
			s.M.W[0], s.M.G[200] = head(0, 200, 0), api.Free
			ends(s, id, 200, api.OK)
		}},
		{"no swap, another tag", listed(3, 5, 2, 3), api.Frame{Op: api.OPush, Pc: 2, R: [8]int{1, head(6, 2, 0)}}, func(s *api.Sys, id int) {
			top(s, id).Pc = 0
		}},
		{"no swap, another index", listed(3, 5, 2, 3), api.Frame{Op: api.OPush, Pc: 2, R: [8]int{1, head(5, 3, 0)}}, func(s *api.Sys, id int) {
			top(s, id).Pc = 0
		}},
		{"no swap, another mark", listed(3, 5, 2, 3), api.Frame{Op: api.OPush, Pc: 2, R: [8]int{1, head(5, 2, 1)}}, func(s *api.Sys, id int) {
			top(s, id).Pc = 0
		}},
	}
}

// turned is an arena with a node made what is told.
func turned(m api.Mem, node, to int) api.Mem {
	m = cloneMem(m)
	m.G[node] = to
	return m
}

// headed is an arena with another word as the head.
func headed(m api.Mem, w int) api.Mem {
	m = cloneMem(m)
	m.W[0] = w
	return m
}

// oddPops are steps of OPop whose registers, Links or heads tell no node, or one that isn't free.
func oddPops() []change {
	return []change{
		{"a marked head of none", headed(listed(3, 0), head(4, 0, 1)), api.Frame{Op: api.OPop}, func(s *api.Sys, id int) {
			s.L = append(s.L, api.Ev{Core: id, Kind: api.ENoMem})
			ends(s, id, 0, api.ErrFull)
		}},
		{"a head that isn't packed, of none", headed(listed(3, 0), -1<<61), api.Frame{Op: api.OPop}, func(s *api.Sys, id int) {
			s.L = append(s.L, api.Ev{Core: id, Kind: api.ENoMem})
			ends(s, id, 0, api.ErrFull)
		}},
		{"a head that isn't packed", headed(listed(3, 0), -1), api.Frame{Op: api.OPop}, func(s *api.Sys, id int) {
			top(s, id).Pc, top(s, id).R[0] = 1, -1
		}},
		{"a head of no node", headed(listed(3, 0), head(0, 4, 0)), api.Frame{Op: api.OPop}, func(s *api.Sys, id int) {
			top(s, id).Pc, top(s, id).R[0] = 1, head(0, 4, 0)
		}},
		{"link of the first index behind the arena", listed(3, 0, 1), api.Frame{Op: api.OPop, Pc: 1, R: [8]int{head(0, 4, 0), 9}}, func(s *api.Sys, id int) {
			s.M.Bad = true
			top(s, id).Pc, top(s, id).R[1] = 2, 0
		}},
		{"link of the greatest index", listed(200, 0, 1), api.Frame{Op: api.OPop, Pc: 1, R: [8]int{-1, 9}}, func(s *api.Sys, id int) {
			s.M.Bad = true
			top(s, id).Pc, top(s, id).R[1] = 2, 0
		}},
		{"link of index 0, whose place is a root", listed(3, 0, 1), api.Frame{Op: api.OPop, Pc: 1, R: [8]int{head(7, 0, 1), 9}}, func(s *api.Sys, id int) {
			top(s, id).Pc, top(s, id).R[1] = 2, 7001+3*124
		}},
		{"link of a word below 0", listed(3, 0, 3, 2), api.Frame{Op: api.OPop, Pc: 1, R: [8]int{-1<<61 + head(8, 3, 0), 9}}, func(s *api.Sys, id int) {
			top(s, id).Pc, top(s, id).R[1] = 2, 2
		}},
		{"swap of a node that is Live", turned(listed(3, 0, 1, 2), 1, api.Live), api.Frame{Op: api.OPop, Pc: 2, R: [8]int{2, 2}}, func(s *api.Sys, id int) {
			s.M.W[0], s.M.Bad = head(1, 2, 0), true
			ends(s, id, 1, api.OK)
		}},
		{"swap of a node that is Retired", turned(listed(3, 0, 1, 2), 1, api.Retired), api.Frame{Op: api.OPop, Pc: 2, R: [8]int{2, 2}}, func(s *api.Sys, id int) {
			s.M.W[0], s.M.Bad = head(1, 2, 0), true
			ends(s, id, 1, api.OK)
		}},
		{"swap of no node", headed(listed(3, 0), head(3, 4, 0)), api.Frame{Op: api.OPop, Pc: 2, R: [8]int{head(3, 4, 0), 2}}, func(s *api.Sys, id int) {
			s.M.W[0], s.M.Bad = head(4, 2, 0), true
			ends(s, id, 4, api.OK)
		}},
		{"swap of index 0", listed(3, 4), api.Frame{Op: api.OPop, Pc: 2, R: [8]int{head(4, 0, 0), 2}}, func(s *api.Sys, id int) {
			s.M.W[0], s.M.Bad = head(5, 2, 0), true
			ends(s, id, 0, api.OK)
		}},
		{"swap to a Link beyond the indices", listed(3, 4, 1), api.Frame{Op: api.OPop, Pc: 2, R: [8]int{head(4, 1, 0), 1<<20 + 3}}, func(s *api.Sys, id int) {
			s.M.W[0], s.M.G[1] = head(5, 3, 0), api.Live
			ends(s, id, 1, api.OK)
		}},
		{"swap to a Link below 0", listed(3, 4, 1), api.Frame{Op: api.OPop, Pc: 2, R: [8]int{head(4, 1, 0), -1}}, func(s *api.Sys, id int) {
			s.M.W[0], s.M.G[1] = head(5, mostNo, 0), api.Live
			ends(s, id, 1, api.OK)
		}},
		{"swap of a marked head", headed(listed(3, 4, 1), head(4, 1, 1)), api.Frame{Op: api.OPop, Pc: 2, R: [8]int{head(4, 1, 1), 2}}, func(s *api.Sys, id int) {
			s.M.W[0], s.M.G[1] = head(5, 2, 0), api.Live
			ends(s, id, 1, api.OK)
		}},
		{"swap of a head that isn't packed", headed(listed(3, 4, 1), -1<<61+head(4, 1, 0)), api.Frame{Op: api.OPop, Pc: 2, R: [8]int{-1<<61 + head(4, 1, 0), 2}}, func(s *api.Sys, id int) {
			s.M.W[0], s.M.G[1] = head(5, 2, 0), api.Live
			ends(s, id, 1, api.OK)
		}},
	}
}

// oddPushes are steps of OPush whose registers or heads tell no node, or one that isn't Live; places that are reckoned of registers go round at 2^64.
func oddPushes() []change {
	return []change{
		{"head that isn't packed", headed(listed(3, 4, 1), math.MinInt), api.Frame{Op: api.OPush, R: [8]int{2}}, func(s *api.Sys, id int) {
			top(s, id).Pc, top(s, id).R[1] = 1, math.MinInt
		}},
		{"link of the first number behind the arena", listed(3, 4, 1), api.Frame{Op: api.OPush, Pc: 1, R: [8]int{4, 6}}, func(s *api.Sys, id int) {
			s.M.Bad = true
			top(s, id).Pc = 2
		}},
		{"link of a number far below 0", listed(3, 4, 1), api.Frame{Op: api.OPush, Pc: 1, R: [8]int{-1 << 61, 6}}, func(s *api.Sys, id int) {
			s.M.Bad = true
			top(s, id).Pc = 2
		}},
		{"link of 0, whose place is a root", listed(3, 4, 1), api.Frame{Op: api.OPush, Pc: 1, R: [8]int{0, 6}}, func(s *api.Sys, id int) {
			s.M.W[124] = 3
			top(s, id).Pc = 2
		}},
		{"link of -31, whose place is the head", listed(3, 4, 1), api.Frame{Op: api.OPush, Pc: 1, R: [8]int{-31, 6}}, func(s *api.Sys, id int) {
			s.M.W[0] = 3
			top(s, id).Pc = 2
		}},
		{"link of -32, ahead of the words", listed(3, 4, 1), api.Frame{Op: api.OPush, Pc: 1, R: [8]int{-32, 6}}, func(s *api.Sys, id int) {
			s.M.Bad = true
			top(s, id).Pc = 2
		}},
		{"link of a place that goes round", listed(3, 4, 1), api.Frame{Op: api.OPush, Pc: 1, R: [8]int{1<<62 + 2, 6}}, func(s *api.Sys, id int) {
			s.M.W[linkAt(2)] = 3
			top(s, id).Pc = 2
		}},
		{"link of a place that goes round below", listed(3, 4, 1), api.Frame{Op: api.OPush, Pc: 1, R: [8]int{math.MinInt + 3, 6}}, func(s *api.Sys, id int) {
			s.M.W[linkAt(3)] = 3
			top(s, id).Pc = 2
		}},
		{"link to a head below 0", listed(3, 4, 1), api.Frame{Op: api.OPush, Pc: 1, R: [8]int{2, -1}}, func(s *api.Sys, id int) {
			s.M.W[linkAt(2)] = mostNo
			top(s, id).Pc = 2
		}},
		{"swap of a node that is Free", listed(3, 4, 1), api.Frame{Op: api.OPush, Pc: 2, R: [8]int{1, head(4, 1, 0)}}, func(s *api.Sys, id int) {
			s.M.W[0], s.M.Bad = head(5, 1, 0), true
			ends(s, id, 1, api.OK)
		}},
		{"swap of a node that is Retired", turned(listed(3, 4, 1), 2, api.Retired), api.Frame{Op: api.OPush, Pc: 2, R: [8]int{2, head(4, 1, 0)}}, func(s *api.Sys, id int) {
			s.M.W[0], s.M.G[2] = head(5, 2, 0), api.Free
			ends(s, id, 2, api.OK)
		}},
		{"swap of no node", listed(3, 4, 1), api.Frame{Op: api.OPush, Pc: 2, R: [8]int{4, head(4, 1, 0)}}, func(s *api.Sys, id int) {
			s.M.W[0], s.M.Bad = head(5, 4, 0), true
			ends(s, id, 4, api.OK)
		}},
		{"swap of 0", listed(3, 4, 1), api.Frame{Op: api.OPush, Pc: 2, R: [8]int{0, head(4, 1, 0)}}, func(s *api.Sys, id int) {
			s.M.W[0], s.M.Bad = head(5, 0, 0), true
			ends(s, id, 0, api.OK)
		}},
		{"swap of a number beyond the indices", listed(3, 4, 1), api.Frame{Op: api.OPush, Pc: 2, R: [8]int{1<<20 + 2, head(4, 1, 0)}}, func(s *api.Sys, id int) {
			s.M.W[0], s.M.Bad = head(5, 2, 0), true
			ends(s, id, 1<<20+2, api.OK)
		}},
		{"swap of the least number", listed(3, 4, 1), api.Frame{Op: api.OPush, Pc: 2, R: [8]int{math.MinInt, head(4, 1, 0)}}, func(s *api.Sys, id int) {
			s.M.W[0], s.M.Bad = head(5, 0, 0), true
			ends(s, id, math.MinInt, api.OK)
		}},
		{"swap of a marked head", headed(listed(3, 4, 1), head(4, 1, 1)), api.Frame{Op: api.OPush, Pc: 2, R: [8]int{2, head(4, 1, 1)}}, func(s *api.Sys, id int) {
			s.M.W[0], s.M.G[2] = head(5, 2, 0), api.Free
			ends(s, id, 2, api.OK)
		}},
		{"swap of a head that isn't packed", headed(listed(3, 4, 1), -1), api.Frame{Op: api.OPush, Pc: 2, R: [8]int{2, -1}}, func(s *api.Sys, id int) {
			s.M.W[0], s.M.G[2] = head(0, 2, 0), api.Free
			ends(s, id, 2, api.OK)
		}},
	}
}

// checkChanges does each of the steps at each of a system's cores, with the arena Bad already, and not.
func checkChanges(t *testing.T, all []change) {
	t.Helper()
	for _, c := range all {
		f := c.f
		f.S = []int{31, 32}
		for r := 2; r < 8; r++ {
			f.R[r] = -40 - r
		}
		for _, cores := range []int{1, 3, 8} {
			for id := range cores {
				for _, bad := range []bool{false, true} {
					s := over(lay(c.m, cores), id, f)
					s.M.Bad = bad
					want := with(s, func(s *api.Sys) { c.do(s, id) })
					if got := stack.Step(s, id); !same(got, want) {
						t.Errorf("%s: core %d of %d: arena %v, core %v, events %v; want arena %v, core %v, events %v",
							c.name, id, cores, got.M, got.C[id], got.L, want.M, want.C[id], want.L)
					}
				}
			}
		}
	}
}

// TestPop: P4.2, each step of OPop.
func TestPop(t *testing.T) { checkChanges(t, popChanges()) }

// TestPush: P4.2, each step of OPush.
func TestPush(t *testing.T) { checkChanges(t, pushChanges()) }

// TestPopOdd: P4.2, pops where a register, a Link or the head tells no node.
func TestPopOdd(t *testing.T) { checkChanges(t, oddPops()) }

// TestPushOdd: P4.2, pushes of what is no node.
func TestPushOdd(t *testing.T) { checkChanges(t, oddPushes()) }

// TestStepBelow: P4.2, a frame that has none below it ends, too, and so does one over 39 others.
func TestStepBelow(t *testing.T) {
	for _, below := range []int{0, 1, 39} {
		s, _ := core.New(2, 3)
		s.M = listed(3, 5, 2, 3)
		s.C[1].F = make([]api.Frame, below)
		s = over(s, 1, api.Frame{Op: api.OPop, Pc: 2, R: [8]int{head(5, 2, 0), 3}})
		got := stack.Step(s, 1)
		want := with(s, func(s *api.Sys) {
			s.M.W[0], s.M.G[2] = head(6, 3, 0), api.Live
			ends(s, 1, 2, api.OK)
		})
		if !same(got, want) {
			t.Errorf("over %d frames: %v", below, got.C)
		}
	}
}

// unchanged: is a step s?
func unchanged(t *testing.T, name string, s api.Sys, id int) {
	t.Helper()
	if got := stack.Step(s, id); !same(got, s) {
		t.Errorf("%s: core %d: %v, %v", name, id, got.C, got.L)
	}
}

// TestStepOtherPc: P4.2, nothing happens, where Pc is none of the steps.
func TestStepOtherPc(t *testing.T) {
	for _, op := range []int{api.OPop, api.OPush} {
		for _, pc := range []int{3, 4, 5, 7, 100, 1 << 40, math.MaxInt, -1, -2, -3, math.MinInt} {
			for _, m := range []api.Mem{listed(3, 5, 2, 3), listed(3, 5)} {
				s := over(lay(m, 3), 1, api.Frame{Op: op, Pc: pc, R: [8]int{m.W[0], m.W[0]}})
				unchanged(t, "another Pc", s, 1)
			}
		}
	}
}

// TestStepOtherOp: P4.2, a top that is another op, also over one of these.
func TestStepOtherOp(t *testing.T) {
	for op := -3; op <= 40; op++ {
		if op == api.OPop || op == api.OPush {
			continue
		}
		for pc := range 3 {
			s := lay(listed(3, 5, 2, 3), 2)
			s = over(s, 0, api.Frame{Op: api.OPop, R: [8]int{2, 3}})
			s = over(s, 0, api.Frame{Op: op, Pc: pc, R: [8]int{head(5, 2, 0), head(5, 2, 0)}})
			unchanged(t, "another op", s, 0)
		}
	}
}

// TestStepNoCore: P4.2, a core that there isn't.
func TestStepNoCore(t *testing.T) {
	for _, cores := range []int{1, 2, 8} {
		s := lay(listed(3, 5, 2, 3), cores)
		for id := range cores {
			s = over(s, id, api.Frame{Op: api.OPop})
		}
		for _, id := range []int{-1, -2, -cores, cores, cores + 1, 8, 100, math.MaxInt, math.MinInt} {
			if id < 0 || id >= cores {
				unchanged(t, "no core", s, id)
			}
		}
	}
}

// TestStepNoFrame: P4.2, a core without a frame, beside others with theirs.
func TestStepNoFrame(t *testing.T) {
	s, _ := core.New(3, 2)
	s.M = stack.Fill(s.M)
	s = over(over(s, 0, api.Frame{Op: api.OPop}), 2, api.Frame{Op: api.OPush, R: [8]int{1}})
	unchanged(t, "no frame", s, 1)
}

// TestOwn: P4.2, two ops are, and no other number is.
func TestOwn(t *testing.T) {
	for op := -100; op <= 100; op++ {
		if is, want := stack.Own(op), op == 1 || op == 2; is != want {
			t.Errorf("Own(%d) = %t", op, is)
		}
	}
	for _, op := range []int{math.MinInt, math.MaxInt, 1<<32 + 1, 1<<32 + 2, -1 << 40} {
		if stack.Own(op) {
			t.Errorf("Own(%d)", op)
		}
	}
}

// TestWalk: P4.3, lists in any order, of none, one and all nodes.
func TestWalk(t *testing.T) {
	down := rising(1, 200)
	slices.Reverse(down)
	for i, c := range []struct {
		n    int
		list []int
	}{
		{1, nil}, {1, []int{1}}, {2, []int{2, 1}}, {3, []int{2}}, {3, []int{3, 1, 2}}, {200, nil}, {200, []int{200}}, {200, rising(1, 200)}, {200, down}, {200, []int{7, 200, 1, 100}},
	} {
		for _, tag := range []int{0, 1, lastTag} {
			m := listed(c.n, tag, c.list...)
			marked := headed(m, m.W[0]+1)
			beyond := headed(m, m.W[0]-1<<61)
			for _, m := range []api.Mem{m, marked, beyond} {
				if l, is := stack.Walk(m); !is || !slices.Equal(l, c.list) {
					t.Errorf("%d, head %d: Walk %v, %t; want %v", i, m.W[0], l, is, c.list)
				}
			}
		}
	}
}

// TestWalkAnyKind: P4.3, what nodes are, and whether the arena is Bad, isn't asked.
func TestWalkAnyKind(t *testing.T) {
	m := listed(3, 5, 3, 1, 2)
	m.G, m.Bad = []int{0, api.Live, api.Retired, api.Free}, true
	if l, is := stack.Walk(m); !is || !slices.Equal(l, []int{3, 1, 2}) {
		t.Errorf("Walk %v, %t", l, is)
	}
}

// TestWalkWrong: P4.3, lists that go round, or lead out of the arena, by the head or by any Link: none, and no.
func TestWalkWrong(t *testing.T) {
	check := func(name string, m api.Mem) {
		t.Helper()
		if l, is := stack.Walk(m); is || len(l) != 0 {
			t.Errorf("%s: Walk %v, %t; want none, no", name, l, is)
		}
	}
	for _, n := range []int{1, 2, 5, 200} {
		for _, index := range []int{n + 1, n + 2, 201, 1 << 10, mostNo} {
			check("head", headed(listed(n, 5), head(5, index, 0)))
		}
		for node := 1; node <= n; node++ {
			for _, to := range []int{n + 1, n + 2, 201, mostNo, 1 << 20, 1<<20 + 1, 1<<62 + 1, math.MaxInt, -1, -2, -n, math.MinInt} {
				m := listed(n, 5, rising(1, n)...)
				m.W[linkAt(node)] = to
				check("link", m)
			}
		}
	}
	for node := 1; node <= 5; node++ {
		for to := 1; to <= node; to++ {
			m := listed(5, 5, rising(1, 5)...)
			m.W[linkAt(node)] = to
			check("round", m)
		}
	}
}

// do calls an op at a core, and steps till it has ended; at most so many steps.
func do(t *testing.T, s api.Sys, id, steps, op int, args ...int) api.Sys {
	t.Helper()
	frames := len(s.C[id].F)
	s = core.Call(s, id, op, args...)
	for range steps {
		s = stack.Step(s, id)
	}
	if len(s.C[id].F) != frames {
		t.Fatalf("op %d at core %d: not ended behind %d steps", op, id, steps)
	}
	return s
}

// TestCameBack: P4.4, a node is popped and pushed again by another core between a load and a swap: the head's index is the same, its tag isn't, and the swap fails.
func TestCameBack(t *testing.T) {
	for stop := 1; stop <= 2; stop++ {
		s, _ := core.New(2, 3)
		s.M = stack.Fill(s.M)
		s = core.Call(s, 0, api.OPop)
		for range stop {
			s = stack.Step(s, 0)
		}
		s = do(t, s, 1, 3, api.OPop)
		s = do(t, s, 1, 3, api.OPop)
		s = do(t, s, 1, 3, api.OPush, 1)
		if s.M.W[0] != head(3, 1, 0) {
			t.Fatalf("head %d", s.M.W[0])
		}
		for range 3 - stop {
			s = stack.Step(s, 0)
		}
		if f, is := core.Top(s, 0); !is || f.Pc != 0 || s.M.W[0] != head(3, 1, 0) {
			t.Errorf("stopped behind %d: top %v, %t, head %d", stop, f, is, s.M.W[0])
		}
		for range 3 {
			s = stack.Step(s, 0)
		}
		l, is := stack.Walk(s.M)
		if s.C[0].V != 1 || s.C[0].E != api.OK || !is || !slices.Equal(l, []int{3}) || s.M.Bad || !slices.Equal(s.M.G, []int{0, 1, 1, 0}) {
			t.Errorf("stopped behind %d: %v, Walk %v, %t", stop, s.C[0], l, is)
		}
	}
}

// TestLinkAnew: P4.4, a push whose swap failed stores its node's Link anew.
func TestLinkAnew(t *testing.T) {
	s, _ := core.New(2, 3)
	s.M = stack.Fill(s.M)
	s = do(t, s, 0, 3, api.OPop)
	s = do(t, s, 1, 3, api.OPop)
	s = core.Call(s, 0, api.OPush, 1)
	s = stack.Step(stack.Step(s, 0), 0)
	if s.M.W[linkAt(1)] != 3 {
		t.Fatalf("Link %d", s.M.W[linkAt(1)])
	}
	s = do(t, s, 1, 3, api.OPush, 2)
	s = stack.Step(s, 0)
	if f, is := core.Top(s, 0); !is || f.Pc != 0 || s.M.W[linkAt(1)] != 3 || s.M.G[1] != api.Live {
		t.Fatalf("top %v, %t", f, is)
	}
	s = stack.Step(stack.Step(s, 0), 0)
	if s.M.W[linkAt(1)] != 2 {
		t.Errorf("Link %d; want 2", s.M.W[linkAt(1)])
	}
	s = stack.Step(s, 0)
	if l, is := stack.Walk(s.M); !is || !slices.Equal(l, []int{1, 2, 3}) || s.C[0].V != 1 || s.C[0].E != api.OK || s.M.Bad {
		t.Errorf("Walk %v, %t, core %v", l, is, s.C[0])
	}
}

// TestTagRound: P4.4, pops and pushes while the tag goes round.
func TestTagRound(t *testing.T) {
	s := api.Sys{M: listed(2, lastTag-1, 1, 2), C: make([]api.Core, 1)}
	for i, c := range []struct{ op, node, head int }{
		{api.OPop, 1, head(lastTag, 2, 0)}, {api.OPop, 2, head(0, 0, 0)}, {api.OPush, 1, head(1, 1, 0)}, {api.OPush, 2, head(2, 2, 0)},
	} {
		s = do(t, s, 0, 3, c.op, c.node)
		if s.M.W[0] != c.head || s.C[0].V != c.node || s.M.Bad {
			t.Errorf("%d: head %d, V %d; want %d, %d", i, s.M.W[0], s.C[0].V, c.head, c.node)
		}
	}
}

// TestAll: P4.4, of 1 and of 200 nodes all are popped, each once, then there is none, and all are pushed again.
func TestAll(t *testing.T) {
	for _, n := range []int{1, 2, 200} {
		s, _ := core.New(1, n)
		s.M = stack.Fill(s.M)
		for node := 1; node <= n; node++ {
			s = do(t, s, 0, 3, api.OPop)
			if l, is := stack.Walk(s.M); s.C[0].V != node || s.C[0].E != api.OK || !is || !slices.Equal(l, rising(node+1, n)) {
				t.Errorf("pop of %d: %v, %d, Walk %v", node, s.C[0].V, s.C[0].E, l)
			}
		}
		s = do(t, s, 0, 1, api.OPop)
		if s.C[0].V != 0 || s.C[0].E != api.ErrFull || !slices.Equal(s.L, []api.Ev{{Core: 0, Kind: 9}}) || mem.Count(s.M, api.Live) != n {
			t.Errorf("pop of none: %v, %v", s.C[0], s.L)
		}
		for node := 1; node <= n; node++ {
			s = do(t, s, 0, 3, api.OPush, node)
		}
		down := rising(1, n)
		slices.Reverse(down)
		if l, is := stack.Walk(s.M); !is || !slices.Equal(l, down) || s.M.Bad || pack.Tag(s.M.W[0]) != 2*n || len(s.L) != 1 {
			t.Errorf("behind all: Walk %v, %t, tag %d", l, is, pack.Tag(s.M.W[0]))
		}
	}
}

// user is who uses the stack: a system, and each core's nodes, popped and not pushed again.
type user struct {
	t    *testing.T
	s    api.Sys
	has  [][]int
	hand []int // what each core pushes by now; 0: it pops, or does nothing
}

func newUser(t *testing.T, cores, nodes int) *user {
	s, _ := core.New(cores, nodes)
	s.M = stack.Fill(s.M)
	return &user{t, s, make([][]int, cores), make([]int, cores)}
}

// split is another user in the same state.
func (u *user) split() *user {
	c := &user{u.t, u.s, nil, slices.Clone(u.hand)}
	for _, l := range u.has {
		c.has = append(c.has, slices.Clone(l))
	}
	return c
}

// step is a step of a core; where it has no op, it begins one: a push of what it popped first, or a pop.
func (u *user) step(id int, push bool) {
	if len(u.s.C[id].F) == 0 && push && len(u.has[id]) > 0 {
		u.hand[id] = u.has[id][0]
		u.has[id] = u.has[id][1:]
		u.s = core.Call(u.s, id, api.OPush, u.hand[id])
	} else if len(u.s.C[id].F) == 0 {
		u.s = core.Call(u.s, id, api.OPop)
	}
	before := u.s
	u.s = stack.Step(u.s, id)
	if len(u.s.C[id].F) == 0 {
		u.ended(before, id)
	}
	u.check()
}

// ended holds what an op told against what was free ahead of its last step.
func (u *user) ended(before api.Sys, id int) {
	u.t.Helper()
	free, _ := stack.Walk(before.M)
	v, e := u.s.C[id].V, u.s.C[id].E
	switch {
	case u.hand[id] != 0:
		if v != u.hand[id] || e != api.OK || slices.Contains(free, v) {
			u.t.Fatalf("push of %d: %d, %d; free %v", u.hand[id], v, e, free)
		}
		u.hand[id] = 0
	case len(free) == 0:
		if v != 0 || e != api.ErrFull || len(u.s.L) != len(before.L)+1 || u.s.L[len(before.L)] != (api.Ev{Core: id, Kind: api.ENoMem}) {
			u.t.Fatalf("pop of none: %d, %d, events %v", v, e, u.s.L)
		}
	default:
		if v != free[0] || e != api.OK {
			u.t.Fatalf("pop: %d, %d; free %v", v, e, free)
		}
		u.has[id] = append(u.has[id], v)
	}
}

// check holds who has what against what is walked, and what the nodes are.
func (u *user) check() {
	u.t.Helper()
	free, is := stack.Walk(u.s.M)
	if !is || u.s.M.Bad {
		u.t.Fatalf("Walk %v, %t, Bad %t", free, is, u.s.M.Bad)
	}
	live := slices.Concat(u.has...)
	for _, node := range u.hand {
		if node != 0 {
			live = append(live, node)
		}
	}
	kinds := make([]int, len(u.s.M.G))
	for _, node := range live {
		kinds[node]++
	}
	all := slices.Sorted(slices.Values(slices.Concat(free, live)))
	if !slices.Equal(all, rising(1, len(u.s.M.G)-1)) || !slices.Equal(kinds, u.s.M.G) {
		u.t.Fatalf("free %v, had %v, nodes %v", free, live, u.s.M.G)
	}
}

// TestOrders: P4.4, two cores, all orders of so many steps, with each choice of what to begin.
func TestOrders(t *testing.T) {
	var all func(u *user, left int)
	all = func(u *user, left int) {
		if left == 0 {
			return
		}
		for id := range 2 {
			a := u.split()
			a.step(id, false)
			all(a, left-1)
			if len(u.s.C[id].F) == 0 && len(u.has[id]) > 0 {
				b := u.split()
				b.step(id, true)
				all(b, left-1)
			}
		}
	}
	for nodes := 1; nodes <= 3; nodes++ {
		all(newUser(t, 2, nodes), 11)
	}
}

// TestManyOrders: P4.4, one to eight cores, few nodes and many, long series of steps of which each picks a core and what it begins by a rule.
func TestManyOrders(t *testing.T) {
	rule := uint64(1)
	pick := func(n int) int {
		rule = rule*6364136223846793005 + 1442695040888963407
		return int(rule>>33) % n
	}
	for _, cores := range []int{1, 2, 3, 5, 8} {
		for _, nodes := range []int{1, 2, 3, 7, 20} {
			u := newUser(t, cores, nodes)
			for range 1500 {
				u.step(pick(cores), pick(2) == 1)
			}
		}
	}
}

// TestRuns: P4.4, cores that each do several steps in a row, so that one stands still while others pop and push many nodes.
func TestRuns(t *testing.T) {
	for length := 1; length <= 13; length++ {
		for _, nodes := range []int{1, 2, 4, 9} {
			u := newUser(t, 3, nodes)
			for i := range 100 {
				for j := range 1 + (i*length)%17 {
					u.step(i%3, (i+j/3)%2 == 1)
				}
			}
		}
	}
}

// TestAlone: P4.4 and T3, a core that alone goes on ends its op, wherever it and the other stand: within five steps, of which two are of a try whose swap fails.
func TestAlone(t *testing.T) {
	for mine := range 3 {
		for others := range 7 {
			for _, push := range []bool{false, true} {
				u := newUser(t, 2, 4)
				for range 6 {
					u.step(0, false)
					u.step(1, false)
				}
				for range mine {
					u.step(0, push)
				}
				for range others {
					u.step(1, !push)
				}
				steps := 0
				for ; steps == 0 || len(u.s.C[0].F) > 0; steps++ {
					u.step(0, push)
				}
				if steps > 5 {
					t.Errorf("mine %d, others %d: %d steps", mine, others, steps)
				}
			}
		}
	}
}

// TestUntouched: R3, the arena, the system, its cores, frames and events aren't written into, also where lists have room behind their ends, and what was answered stays as it was behind later calls.
func TestUntouched(t *testing.T) {
	for _, c := range slices.Concat(popChanges(), pushChanges(), oddPops(), oddPushes()) {
		s := over(lay(c.m, 3), 1, c.f)
		s.L = append(s.L, api.Ev{Core: 7})[:len(s.L)]
		s.M.W = append(s.M.W, 77)[:len(s.M.W)]
		kept := clone(s)
		a := stack.Step(s, 1)
		first := clone(a)
		b := stack.Step(a, 1)
		second := clone(b)
		stack.Step(stack.Step(b, 1), 1)
		stack.Walk(a.M)
		stack.Fill(a.M)
		if !same(s, kept) || !same(a, first) || !same(b, second) {
			t.Errorf("%s: written into", c.name)
		}
		if l := s.L[:len(s.L)+1]; l[len(l)-1] != (api.Ev{Core: 7}) {
			t.Errorf("%s: written behind the events", c.name)
		}
	}
}

// TestUntouchedArena: R3, Fill and Walk don't write into the arena, and what they answer is memory of its own.
func TestUntouchedArena(t *testing.T) {
	m := listed(5, 3, 2, 5, 1)
	kept := cloneMem(m)
	a := stack.Fill(m)
	l, _ := stack.Walk(m)
	if !sameMem(m, kept) {
		t.Error("written into")
	}
	a.W[0], a.G[1] = 99, 99
	l[0] = 99
	again, _ := stack.Walk(m)
	if !sameMem(m, kept) || !slices.Equal(again, []int{2, 5, 1}) {
		t.Error("shared")
	}
}

// TestOwnMemory: R3, what a step answers shares nothing with what it was given, also where it is the same.
func TestOwnMemory(t *testing.T) {
	s := over(lay(listed(3, 5, 2, 3), 2), 0, api.Frame{Op: api.OPop, S: []int{4}})
	s = over(s, 1, api.Frame{Op: api.OEnq, S: []int{4}})
	for id := -1; id <= 2; id++ {
		kept := clone(s)
		a := stack.Step(s, id)
		a.M.W[0]++
		a.M.G[1]++
		a.L[0].A++
		for i := range a.C {
			a.C[i].V++
			a.C[i].F[0].Pc++
			a.C[i].F[2].S[0]++
			if len(a.C[i].Ret) > 0 {
				a.C[i].Ret[0]++
			}
		}
		if !same(s, kept) {
			t.Errorf("core %d: shared", id)
		}
	}
}

// TestTwice: R4, the same arguments, the same answers.
func TestTwice(t *testing.T) {
	for _, c := range slices.Concat(popChanges(), pushChanges(), oddPops(), oddPushes()) {
		s := over(lay(c.m, 2), 1, c.f)
		if !same(stack.Step(s, 1), stack.Step(s, 1)) || !sameMem(stack.Fill(c.m), stack.Fill(c.m)) {
			t.Errorf("%s: two answers", c.name)
		}
	}
}
