package scan_test

import (
	"fmt"
	"reflect"
	"slices"
	"testing"

	"hazel/api"
	"hazel/core"
	"hazel/mem"
	"hazel/scan"
	"hazel/stack"
)

// shared is the place of the word that the cores share.
const shared = 100

// The works of a core. Reading is to name what the word tells, to read its Val twice, and to clear the slots. Writing is to pop a node, to lay it there, and to retire the old one. Sweeping is a scan.
const (
	resting = iota
	reading
	writing
	sweeping
)

// What a core does next, where it has no op at work.
const (
	toPick   = iota // its next work
	toRead          // the Val of the node that it has named
	toReread        // that again
	toClear         // its slots
	toPop           // a node
	toScan          // its retired nodes, since no node was free
	toSee           // the word
	toFill          // the Val of its node
	toSwap          // the word
	toRetire        // the node that the word told
)

// who is what one does with a core: what is next, which work that is of, how many works were begun, the word that was named or seen, and the node that is laid there.
type who struct {
	next, work, begun, word, node int
}

// world is cores that share a word, the works that each does, one after another, and of each node the slots that named it where it was retired and name it still.
type world struct {
	t     *testing.T
	s     api.Sys
	works func(id, n int) int
	whos  [8]who
	guard [64]uint32
	count map[string]int
}

// indexOf is a word's index, written out.
func indexOf(w int) int { return w >> 1 & (1<<20 - 1) }

// newer is the word behind one, of that index, written out.
func newer(w, index int) int { return (w>>21+1)<<21 + index<<1 }

// newWorld is one in which the word tells node 1, whose Val is that word, as each one's is.
func newWorld(t *testing.T, cores, nodes int, works func(id, n int) int) *world {
	s := popped(t, cores, nodes, 1)
	s.M = mem.Store(mem.Store(s.M, shared, 1<<1), mem.At(1, api.Val), 1<<1)
	return &world{t: t, s: s, works: works, count: map[string]int{}}
}

// split is another world in the same state.
func (w *world) split() *world {
	c := *w
	return &c
}

// begin picks a core's next work.
func (w *world) begin(id int) {
	me := &w.whos[id]
	me.work = w.works(id, me.begun)
	me.begun++
	me.next = map[int]int{resting: toPick, reading: toRead, writing: toPop, sweeping: toPick}[me.work]
	switch me.work {
	case reading:
		w.s = core.Call(w.s, id, api.OProt, shared, me.begun%3)
	case sweeping:
		w.s = core.Call(w.s, id, api.OScan)
	}
}

// touch is a step that one does without an op: it touches one word.
func (w *world) touch(id int) {
	me := &w.whos[id]
	at := mem.At(me.node, api.Val)
	switch me.next {
	case toRead, toReread:
		var v int
		w.s.M, v = mem.Load(w.s.M, at)
		if v != me.word {
			w.t.Fatalf("core %d read %d in node %d; the word was %d", id, v, me.node, me.word)
		}
		w.count["read"]++
		me.next++
	case toSee:
		w.s.M, me.word = mem.Load(w.s.M, shared)
		me.next = toFill
	case toFill:
		w.s.M = mem.Store(w.s.M, at, newer(me.word, me.node))
		me.next = toSwap
	case toSwap:
		var is bool
		w.s.M, is = mem.Cas(w.s.M, shared, me.word, newer(me.word, me.node))
		me.next = toSee
		if is {
			me.next = toRetire
		}
	}
}

// call calls the op that is next, if there is one.
func (w *world) call(id int) {
	me := &w.whos[id]
	switch me.next {
	case toPick:
		w.begin(id)
		if me.work == writing {
			w.call(id)
		}
	case toClear:
		w.s = core.Call(w.s, id, api.OClear)
	case toPop:
		w.s = core.Call(w.s, id, api.OPop)
	case toScan:
		w.s = core.Call(w.s, id, api.OScan)
	case toRetire:
		w.s = core.Call(w.s, id, api.ORetire, indexOf(me.word))
	}
}

// ended is what is next behind an op that has ended.
func (w *world) ended(id int) {
	me, c := &w.whos[id], w.s.C[id]
	switch me.next {
	case toRead:
		me.word, me.node = c.V, indexOf(c.V)
	case toPop:
		me.node, me.next = c.V, toSee
		if c.E == api.ErrFull {
			me.next = toScan
			w.count["full"]++
		}
	case toScan:
		me.next = toPop
	case toClear, toRetire:
		me.next = toPick
	}
}

// step is a step of a core, or of what one does with it.
func (w *world) step(id int) {
	w.t.Helper()
	before := w.s
	if len(w.s.C[id].F) == 0 {
		w.call(id)
	}
	if len(w.s.C[id].F) == 0 {
		w.touch(id)
		w.check(before, id)
		return
	}
	f, _ := core.Top(w.s, id)
	w.s = scan.Step(w.s, id)
	w.behind(f, id)
	if len(w.s.C[id].F) == 0 {
		w.ended(id)
	}
	w.check(before, id)
}

// behind looks at what a step of an op did that is asked for: a retired node's guards, and how a scan ends.
func (w *world) behind(f api.Frame, id int) {
	w.t.Helper()
	c := w.s.C[id]
	now, is := core.Top(w.s, id)
	switch {
	case f.Op == api.ORetire && f.Pc == 0:
		w.count["retired"]++
		for slot := range 3 * len(w.s.C) {
			if w.s.M.W[8+slot] == f.R[0] {
				w.guard[f.R[0]] |= 1 << slot
				w.count["guarded"]++
			}
		}
	case f.Op == api.OScan && f.Pc == 1 && (!is || now.Op != api.OPush):
		w.count["scan"]++
		if c.V != len(c.Ret) || c.E != api.OK || len(c.Ret) > 3*len(w.s.C) {
			w.t.Fatalf("core %d: a scan ended with %d, %d; Ret %v", id, c.V, c.E, c.Ret)
		}
	case f.Op == api.OPush && (!is || now.Op != api.OPush):
		w.count["free"]++
	}
}

// check holds all that must be behind each step.
func (w *world) check(before api.Sys, id int) {
	w.t.Helper()
	if w.s.M.Bad {
		w.t.Fatalf("Bad, by core %d, behind %v", id, before.C[id])
	}
	w.checkNamed()
	w.checkParts()
	changed := 0
	for place, v := range w.s.M.W {
		if v != before.M.W[place] {
			changed++
		}
	}
	if changed > 1 || len(w.s.C) != len(before.C) {
		w.t.Fatalf("core %d changed %d words", id, changed)
	}
	for other := range w.s.C {
		if other != id && !reflect.DeepEqual(w.s.C[other], before.C[other]) {
			w.t.Fatalf("core %d changed core %d", id, other)
		}
	}
}

// checkNamed: no node is free that a slot named ahead of its being retired, and names still, nor one that one may touch.
func (w *world) checkNamed() {
	w.t.Helper()
	for node, is := range w.s.M.G {
		for slot := range 3 * len(w.s.C) {
			if w.s.M.W[8+slot] != node {
				w.guard[node] &^= 1 << slot
			}
		}
		if w.guard[node] != 0 && is != api.Retired {
			w.t.Fatalf("node %d is %d; slots %v", node, is, w.s.M.W[8:32])
		}
	}
	for id, c := range w.s.C {
		me := w.whos[id]
		if len(c.F) == 0 && me.next >= toRead && me.next <= toClear && w.s.M.G[me.node] == api.Free {
			w.t.Fatalf("core %d may touch node %d, which is Free", id, me.node)
		}
	}
}

// checkParts: what is free is walked; what is retired is in one core's Ret, or is pushed by it; no core has more than the limit.
func (w *world) checkParts() {
	w.t.Helper()
	free, is := stack.Walk(w.s.M)
	if !is || len(free) != mem.Count(w.s.M, api.Free) {
		w.t.Fatalf("free %v, %t; nodes %v", free, is, w.s.M.G)
	}
	ret := scan.Retired(w.s)
	for id, c := range w.s.C {
		if n := len(c.F); n > 1 && c.F[n-1].Op == api.OPush {
			ret = append(ret, c.F[n-1].R[0])
		}
		if len(c.Ret) > 3*len(w.s.C)+1 {
			w.t.Fatalf("core %d: Ret %v", id, c.Ret)
		}
	}
	slices.Sort(ret)
	if len(slices.Compact(ret)) != len(ret) || len(ret) != mem.Count(w.s.M, api.Retired) {
		w.t.Fatalf("retired %v; nodes %v", ret, w.s.M.G)
	}
	for _, node := range ret {
		if w.s.M.G[node] != api.Retired {
			w.t.Fatalf("node %d is in Ret, and %d", node, w.s.M.G[node])
		}
	}
}

// rests: has a core done all its works?
func (w *world) rests(id int) bool {
	me := w.whos[id]
	return len(w.s.C[id].F) == 0 && me.next == toPick && w.works(id, me.begun) == resting
}

// state tells all on which what comes hangs.
func (w *world) state() string {
	var cores []any
	for id, c := range w.s.C {
		cores = append(cores, c.F, c.Ret, w.whos[id])
	}
	return fmt.Sprint(w.s.M.W[0], w.s.M.W[8:8+3*len(w.s.C)], w.s.M.W[shared], w.s.M.W[128:], w.s.M.G, w.guard[:len(w.s.M.G)], cores)
}

// orders goes through all orders of steps, and tells how many states there are; a state to which several lead is gone on from once.
func (w *world) orders() int {
	came := map[string]bool{w.state(): true}
	ahead := []*world{w}
	for len(ahead) > 0 {
		last := ahead[len(ahead)-1]
		ahead = ahead[:len(ahead)-1]
		for id := range last.s.C {
			if last.rests(id) {
				continue
			}
			a := last.split()
			a.step(id)
			if state := a.state(); !came[state] {
				came[state] = true
				ahead = append(ahead, a)
			}
		}
	}
	return len(came)
}

// planned is the works of each core, and rest behind them.
func planned(plan ...[]int) func(id, n int) int {
	return func(id, n int) int {
		if n >= len(plan[id]) {
			return resting
		}
		return plan[id][n]
	}
}

// TestOrders: P6.3, cores that read, write and scan a few times, in all orders of steps.
func TestOrders(t *testing.T) {
	for i, c := range []struct {
		nodes int
		plan  [][]int
	}{
		{2, [][]int{{reading, reading}, {writing, sweeping, writing, sweeping}}},
		{3, [][]int{{reading, reading}, {writing, writing, sweeping, writing}}},
		{3, [][]int{{writing, sweeping, reading}, {writing, sweeping, reading}}},
		{3, [][]int{{reading}, {reading}, {writing, sweeping}}},
	} {
		w := newWorld(t, len(c.plan), c.nodes, planned(c.plan...))
		states := w.orders()
		t.Log(i, states, w.count)
		if states < 1000 {
			t.Errorf("%d: %d states", i, states)
		}
		for _, of := range []string{"read", "retired", "guarded", "scan", "free"} {
			if w.count[of] == 0 {
				t.Errorf("%d: %s never came", i, of)
			}
		}
	}
}

// TestManyOrders: P6.3, one to eight cores that read, write and scan, few nodes and many, long series of steps of which each picks, by a rule, a core and how many steps it does.
func TestManyOrders(t *testing.T) {
	rule := uint64(1)
	pick := func(n int) int {
		rule = rule*6364136223846793005 + 1442695040888963407
		return int(rule>>33) % n
	}
	works := func(id, n int) int {
		return []int{reading, writing, writing, reading, writing, reading, writing, sweeping, writing}[(n*n+n/3+5*id)%9]
	}
	count := map[string]int{}
	for _, cores := range []int{1, 2, 3, 5, 8} {
		for _, nodes := range []int{2, cores + 2, 3*cores + 4, 40, 63} {
			for _, burst := range []int{1, 4, 30} {
				w := newWorld(t, cores, nodes, works)
				w.count = count
				for range 700 / burst {
					id := pick(cores)
					for range 1 + pick(2*burst) {
						w.step(id)
					}
				}
			}
		}
	}
	t.Log(count)
	for of, least := range map[string]int{"read": 500, "retired": 500, "guarded": 50, "scan": 100, "free": 500, "full": 50} {
		if count[of] < least {
			t.Errorf("%s: %d", of, count[of])
		}
	}
}

// TestStandsStill: P6.3, a core that has named a node stands still, wherever in its reading, while others write on: that node is the one that stays, and it may be touched at last.
func TestStandsStill(t *testing.T) {
	for still := 1; still <= 8; still++ {
		works := func(id, n int) int {
			if id == 0 {
				return reading
			}
			return writing
		}
		w := newWorld(t, 3, 24, works)
		for range still {
			w.step(0)
		}
		for i := range 1500 {
			w.step(1 + (i/5)%2)
		}
		named := 0
		for slot := range 3 {
			named = max(named, w.s.M.W[8+slot])
		}
		if named != 0 && w.s.M.G[named] != api.Retired {
			t.Errorf("behind %d steps: node %d is %d", still, named, w.s.M.G[named])
		}
		for range 40 {
			w.step(0)
		}
		if w.count["scan"] < 5 || w.count["free"] < 30 {
			t.Errorf("behind %d steps: %v", still, w.count)
		}
	}
}
