package alloc_test

import (
	"fmt"
	"reflect"
	"slices"
	"testing"

	"hazel/alloc"
	"hazel/api"
	"hazel/core"
	"hazel/haz"
	"hazel/mem"
	"hazel/stack"
)

// The works of a core: a node is allocated; the one that it has had longest is dropped, or retired; a slot names a node; no slot names anything; it scans.
const (
	resting = iota
	allocating
	dropping
	retiring
	naming
	clearing
	scanning
)

// who is what one knows of a core: how many works were begun, the nodes that it was told and has still, and what its last OAlloc met, a letter each: n no node, g a node, e an empty Ret, r one that isn't, s a scan's end.
type who struct {
	begun int
	hands []int
	met   string
}

// world is cores that allocate, drop and retire, and the works that each does, one after another.
type world struct {
	t     *testing.T
	s     api.Sys
	works func(id, n int) int
	whos  [8]who
	count map[string]int
}

func newWorld(t *testing.T, cores, nodes int, works func(id, n int) int) *world {
	return &world{t: t, s: start(t, cores, nodes), works: works, count: map[string]int{}}
}

// split is another world in the same state.
func (w *world) split() *world {
	c := *w
	return &c
}

// begin begins a core's next work. One that drops or retires, and has no node, does nothing; naming is a store that one does without an op.
func (w *world) begin(id int) {
	me := &w.whos[id]
	work := w.works(id, me.begun)
	me.begun++
	switch work {
	case allocating:
		me.met = ""
		w.s = core.Call(w.s, id, api.OAlloc)
	case dropping, retiring:
		if len(me.hands) > 0 {
			op := map[int]int{dropping: api.ODrop, retiring: api.ORetire}[work]
			w.s = core.Call(w.s, id, op, me.hands[0])
			me.hands = me.hands[1:]
		}
	case naming:
		node := 1 + (me.begun/2+id)%(len(w.s.M.G)-1)
		w.s.M = mem.Store(w.s.M, haz.Place(id, me.begun%3), node)
	case clearing:
		w.s = core.Call(w.s, id, api.OClear)
	case scanning:
		w.s = core.Call(w.s, id, api.OScan)
	}
}

// step is a step of a core; one that has no op at work begins one.
func (w *world) step(id int) {
	w.t.Helper()
	if len(w.s.C[id].F) == 0 {
		w.begin(id)
	}
	before := w.s
	f, is := core.Top(before, id)
	if !is {
		w.checkParts()
		return
	}
	w.s = alloc.Step(w.s, id)
	w.behind(before, id, f)
	w.checkWords(before, id, f)
	w.checkParts()
}

// behind notes what a step met, and looks at what an op told that has ended.
func (w *world) behind(before api.Sys, id int, f api.Frame) {
	w.t.Helper()
	me, c := &w.whos[id], w.s.C[id]
	ended := len(c.F) < len(before.C[id].F)
	none := !slices.Contains(before.M.G[1:], api.Free)
	switch {
	case f.Op == api.OPop && f.Pc == 0:
		if ended != none || len(w.s.L) > len(before.L) != none {
			w.t.Fatalf("core %d: no node is free: %t; %v, events %v", id, none, c, w.s.L[len(before.L):])
		}
		if none {
			me.met += "n"
		}
	case f.Op == api.OPop && ended:
		me.met += "g"
	case f.Op == api.OScan && ended:
		me.met += "s"
	case f.Op == api.OAlloc && f.Pc == 1 && me.met == "n":
		me.met += map[bool]string{true: "e", false: "r"}[len(before.C[id].Ret) == 0]
	case f.Op == api.ODrop && ended && (c.V != f.R[0] || c.E != api.OK):
		w.t.Fatalf("core %d: ODrop of %d told %d, %d", id, f.R[0], c.V, c.E)
	}
	if f.Op == api.OAlloc && ended {
		w.allocated(id)
	}
}

// allocated holds what an OAlloc told against what it met.
func (w *world) allocated(id int) {
	w.t.Helper()
	me, c := &w.whos[id], w.s.C[id]
	w.count[me.met]++
	switch me.met {
	case "g", "nrsg":
		if c.E != api.OK || c.V < 1 || c.V >= len(w.s.M.G) || w.s.M.G[c.V] != api.Live {
			w.t.Fatalf("core %d met %s, and was told %d, %d; nodes %v", id, me.met, c.V, c.E, w.s.M.G)
		}
		me.hands = append(slices.Clip(me.hands), c.V)
	case "ne", "nrsn":
		if c.E != api.ErrFull || c.V != 0 {
			w.t.Fatalf("core %d met %s, and was told %d, %d", id, me.met, c.V, c.E)
		}
	default:
		w.t.Fatalf("core %d met %s", id, me.met)
	}
}

// checkWords: a step changes no other core and one word at most; steps of this chapter's ops leave the arena and the events as they are.
func (w *world) checkWords(before api.Sys, id int, f api.Frame) {
	w.t.Helper()
	changed := 0
	for place, v := range w.s.M.W {
		if v != before.M.W[place] {
			changed++
		}
	}
	if w.s.M.Bad || changed > 1 || len(w.s.C) != len(before.C) {
		w.t.Fatalf("core %d, op %d, step %d: Bad %t, %d words", id, f.Op, f.Pc, w.s.M.Bad, changed)
	}
	if f.Op == api.OAlloc || f.Op == api.ODrop {
		if !reflect.DeepEqual(w.s.M, before.M) || len(w.s.L) != len(before.L) {
			w.t.Fatalf("core %d, op %d, step %d touched the arena", id, f.Op, f.Pc)
		}
	}
	for other := range w.s.C {
		if other != id && !reflect.DeepEqual(w.s.C[other], before.C[other]) {
			w.t.Fatalf("core %d changed core %d", id, other)
		}
	}
}

// checkParts: each node is in one part, and in one place alone: in the list, if it is Free; at one core that has it, or is at its OAlloc, ODrop or ORetire, if it is Live; in one core's Ret, or on its way from there to the list, if it is Retired.
func (w *world) checkParts() {
	w.t.Helper()
	free, is := stack.Walk(w.s.M)
	var live, retired []int
	for id := range w.s.C {
		l, r := w.at(id)
		live, retired = append(live, l...), append(retired, r...)
	}
	slices.Sort(free)
	slices.Sort(live)
	slices.Sort(retired)
	f, l, r := alloc.Parts(w.s)
	if !is || !slices.Equal(f, free) || !slices.Equal(l, live) || !slices.Equal(r, retired) {
		w.t.Fatalf("parts %v, %v, %v; want %v, %v, %v; cores %v", f, l, r, free, live, retired, w.s.C)
	}
	all := slices.Concat(f, l, r)
	slices.Sort(all)
	for i, node := range all {
		if node != i+1 || len(all) != len(w.s.M.G)-1 {
			w.t.Fatalf("parts %v, %v, %v", f, l, r)
		}
	}
}

// at are the nodes that are at a core: the Live ones, and those that it has retired.
func (w *world) at(id int) (live, retired []int) {
	c := w.s.C[id]
	live, retired = slices.Clone(w.whos[id].hands), slices.Clone(c.Ret)
	n := len(c.F)
	if n == 0 {
		return live, retired
	}
	top, below := c.F[n-1], c.F[0]
	pushing := top.Op == api.OPush
	switch {
	case below.Op == api.OAlloc && n == 1 && (below.Pc == 1 || below.Pc == 3) && c.E == api.OK:
		live = append(live, c.V)
	case below.Op == api.ODrop && (below.Pc == 0 || pushing), below.Op == api.ORetire && below.Pc == 0:
		live = append(live, below.R[0])
	case pushing:
		retired = append(retired, top.R[0])
	}
	return live, retired
}

// rests: has a core done all its works?
func (w *world) rests(id int) bool {
	return len(w.s.C[id].F) == 0 && w.works(id, w.whos[id].begun) == resting
}

// state tells all on which what comes hangs.
func (w *world) state() string {
	return fmt.Sprint(w.s.M.W[0], w.s.M.W[8:32], w.s.M.W[128:], w.s.M.G, w.s.C, w.whos[:len(w.s.C)])
}

// orders goes through all orders of steps, and tells how many states there are; a state to which several lead is gone on from once.
func (w *world) orders() int {
	came := map[string]bool{w.state(): true}
	ahead := []*world{w}
	for len(ahead) > 0 {
		last := ahead[len(ahead)-1]
		ahead = ahead[:len(ahead)-1]
		for id := range last.s.C {
			if last.rests(id) {
				continue
			}
			a := last.split()
			a.step(id)
			if state := a.state(); !came[state] {
				came[state] = true
				ahead = append(ahead, a)
			}
		}
	}
	return len(came)
}

// planned is the works of each core, and rest behind them.
func planned(plan ...[]int) func(id, n int) int {
	return func(id, n int) int {
		if n >= len(plan[id]) {
			return resting
		}
		return plan[id][n]
	}
}

// TestOrders: P7.3, cores that allocate, drop and retire a few times, in all orders of steps; all that an OAlloc of these can meet comes.
func TestOrders(t *testing.T) {
	for i, c := range []struct {
		nodes int
		met   []string
		plan  [][]int
	}{
		{1, []string{"g", "ne"}, [][]int{{allocating, dropping, allocating}, {allocating, dropping, allocating}}},
		{2, []string{"g", "ne"}, [][]int{{allocating, dropping, allocating, allocating}, {allocating, dropping, allocating}}},
		{1, []string{"g", "ne", "nrsg", "nrsn"}, [][]int{{allocating, retiring, allocating, dropping}, {allocating, dropping, allocating}}},
		{2, []string{"g", "ne", "nrsg", "nrsn"}, [][]int{{allocating, retiring, allocating, retiring, allocating}, {allocating, retiring, allocating}}},
		{2, []string{"g", "ne", "nrsg", "nrsn"}, [][]int{{allocating, retiring, allocating, allocating}, {naming, allocating, clearing}}},
		{2, []string{"g", "ne", "nrsg", "nrsn"}, [][]int{{allocating, retiring, allocating}, {allocating, dropping}, {allocating}}},
	} {
		w := newWorld(t, len(c.plan), c.nodes, planned(c.plan...))
		states := w.orders()
		t.Log(i, states, w.count)
		if states < 200 {
			t.Errorf("%d: %d states", i, states)
		}
		for _, met := range c.met {
			if w.count[met] == 0 {
				t.Errorf("%d: %s never came", i, met)
			}
		}
	}
}

// TestManyOrders: P7.3, one to eight cores that do all works, few nodes and many, long series of steps of which each picks, by a rule, a core and how many steps it does.
func TestManyOrders(t *testing.T) {
	rule := uint64(1)
	pick := func(n int) int {
		rule = rule*6364136223846793005 + 1442695040888963407
		return int(rule>>33) % n
	}
	often := []int{
		allocating, allocating, dropping, allocating, retiring, naming, allocating, retiring, allocating, clearing,
		allocating, allocating, retiring, allocating, dropping, allocating, scanning, retiring, naming, allocating, retiring,
	}
	works := func(id, n int) int { return often[(n+n/7+5*id)%len(often)] }
	count := map[string]int{}
	for _, cores := range []int{1, 2, 3, 5, 8} {
		for _, nodes := range []int{1, 2, cores, 3 * cores, 40} {
			for _, burst := range []int{1, 4, 30} {
				w := newWorld(t, cores, nodes, works)
				w.count = count
				for range 900 / burst {
					id := pick(cores)
					for range 1 + pick(2*burst) {
						w.step(id)
					}
				}
			}
		}
	}
	t.Log(count)
	for _, met := range []string{"g", "ne", "nrsg", "nrsn"} {
		if count[met] < 50 {
			t.Errorf("%s came %d times", met, count[met])
		}
	}
}

// TestStandsStill: P7.3, a core stands still, wherever in its OAlloc, its ODrop or its scan, while another one goes on: that one gets all nodes but those at the first one, and ErrFull behind them; and the first one ends as it must.
func TestStandsStill(t *testing.T) {
	plan := planned([]int{allocating, dropping, allocating, retiring, scanning}, slices.Repeat([]int{allocating}, 9))
	for still := 1; still <= 30; still++ {
		w := newWorld(t, 2, 5, plan)
		for range still {
			w.step(0)
		}
		live, retired := w.at(0)
		for range 45 {
			w.step(1)
		}
		if got := w.whos[1].hands; len(got) != 5-len(live)-len(retired) || w.s.C[1].E != api.ErrFull {
			t.Errorf("behind %d steps: core 1 got %v; at core 0 are %v, %v", still, got, live, retired)
		}
		for range 60 {
			if !w.rests(0) {
				w.step(0)
			}
		}
		if !w.rests(0) || w.s.M.Bad {
			t.Errorf("behind %d steps: core 0 doesn't end: %v", still, w.s.C[0])
		}
	}
}
