package msq_test

import (
	"fmt"
	"reflect"
	"slices"
	"testing"

	"hazel/alloc"
	"hazel/api"
	"hazel/core"
	"hazel/msq"
	"hazel/stack"
)

// work is what a core does next: an op of a queue; op 0 is rest.
type work struct{ op, q int }

// who is what one knows of a core: how many works were begun, the last one's queue and value, and what took effect since it began.
type who struct {
	begun, q, v int
	did         []api.Ev
}

// world is cores that put in and take out, the works that each does, one after another, and what each of the queues that were made holds, by what took effect.
type world struct {
	t     *testing.T
	s     api.Sys
	works func(id, n int) work
	whos  [8]who
	holds [8][]int
	made  int
	count map[string]int
}

// newWorld is one whose queues from 0 on have each so many items.
func newWorld(t *testing.T, cores, nodes int, items []int, works func(id, n int) work) *world {
	w := &world{t: t, s: start(t, cores, nodes), works: works, made: len(items), count: map[string]int{}}
	for q, n := range items {
		w.s = made(t, w.s, q)
		for i := range n {
			v := -1 - 10*q - i
			w.s = told(t, w.s, 0, api.OK, 0, api.OEnq, q, v)
			w.holds[q] = append(w.holds[q], v)
		}
	}
	w.s.L = nil
	return w
}

// split is another world in the same state.
func (w *world) split() *world {
	c := *w
	return &c
}

// begin begins a core's next work. No two values are the same.
func (w *world) begin(id int) {
	me := &w.whos[id]
	next := w.works(id, me.begun)
	me.begun++
	me.q, me.v, me.did = next.q, 1+id+8*me.begun, nil
	if next.op != 0 {
		w.s = core.Call(w.s, id, next.op, me.q, me.v)
	}
}

// step is a step of a core; one that has no op at work begins one.
func (w *world) step(id int) {
	w.t.Helper()
	if len(w.s.C[id].F) == 0 {
		w.begin(id)
	}
	before := w.s
	f, is := core.Top(before, id)
	if !is {
		return
	}
	w.s = msq.Step(w.s, id)
	w.checkWords(before, id, f)
	for _, e := range w.s.L[len(before.L):] {
		w.effect(id, e)
	}
	w.s.L = nil // what took effect is in holds
	if len(w.s.C[id].F) == 0 {
		w.ended(id, f)
	}
	w.checkHolds()
}

// checkWords: a step is never Bad, changes no other core and one word at most; one of which chapter 8 says that it touches none changes none.
func (w *world) checkWords(before api.Sys, id int, f api.Frame) {
	w.t.Helper()
	changed := 0
	for place, v := range w.s.M.W {
		if v != before.M.W[place] {
			changed++
		}
	}
	most := 1
	if f.Op == api.OEnq && (f.Pc < 2 || f.Pc == 5 || f.Pc == 6) || f.Op == api.ODeq && f.Pc < 2 {
		most = 0
	}
	if w.s.M.Bad || changed > most || len(w.s.C) != len(before.C) || len(w.s.L) > len(before.L)+1 {
		w.t.Fatalf("core %d, op %d, step %d: Bad %t, %d words, events %v", id, f.Op, f.Pc, w.s.M.Bad, changed, w.s.L)
	}
	for other := range w.s.C {
		if other != id && !reflect.DeepEqual(w.s.C[other], before.C[other]) {
			w.t.Fatalf("core %d changed core %d", id, other)
		}
	}
}

// effect does at once, at what the queues hold, what a step of a core tells.
func (w *world) effect(id int, e api.Ev) {
	w.t.Helper()
	me := &w.whos[id]
	holds := &w.holds[me.q]
	if e.Kind == api.ENoMem {
		if slices.Contains(w.s.M.G[1:], api.Free) || e != (api.Ev{Core: id, Kind: e.Kind}) {
			w.t.Fatalf("core %d: %v, nodes %v", id, e, w.s.M.G)
		}
		return
	}
	me.did = append(slices.Clip(me.did), e)
	want := api.Ev{Core: id, Kind: e.Kind, A: me.q}
	switch e.Kind {
	case api.EEnq:
		want.V = me.v
		*holds = append(slices.Clip(*holds), me.v)
	case api.EDeq:
		if len(*holds) == 0 {
			w.t.Fatalf("core %d: %v of a queue that is empty", id, e)
		}
		want.V = (*holds)[0]
		*holds = (*holds)[1:]
	case api.EEmpty:
		if len(*holds) > 0 {
			w.t.Fatalf("core %d: %v, but there are %v", id, e, *holds)
		}
	default:
		w.t.Fatalf("core %d: %v", id, e)
	}
	if e != want {
		w.t.Fatalf("core %d: %v, want %v", id, e, want)
	}
}

// ended holds what an op told against what took effect, just once, since it began; its core names nothing any more.
func (w *world) ended(id int, f api.Frame) {
	w.t.Helper()
	me, c := &w.whos[id], w.s.C[id]
	kind, v := 0, 0
	switch {
	case f.Op == api.OEnq && c.E == api.OK:
		kind = api.EEnq
	case f.Op == api.ODeq && c.E == api.OK:
		kind, v = api.EDeq, c.V
	case f.Op == api.ODeq && c.E == api.ErrNone:
		kind = api.EEmpty
	case f.Op != api.OEnq || c.E != api.ErrFull:
		w.t.Fatalf("core %d: op %d told %d, %d", id, f.Op, c.V, c.E)
	}
	w.count[fmt.Sprint(f.Op, " ", c.E)]++
	once := len(me.did) == 1 && me.did[0].Kind == kind && (kind == api.EEnq || me.did[0].V == v)
	if kind == 0 {
		once = len(me.did) == 0
	}
	if !once || c.V != v || w.s.M.W[8+3*id] != 0 || w.s.M.W[9+3*id] != 0 || w.s.M.W[10+3*id] != 0 {
		w.t.Fatalf("core %d: op %d told %d, %d; took effect: %v; slots %v", id, f.Op, c.V, c.E, me.did, w.s.M.W[8+3*id:11+3*id])
	}
}

// checkHolds: Items are what each queue holds, its nodes are Live, and the list is of the free ones.
func (w *world) checkHolds() {
	w.t.Helper()
	for q := range w.made {
		items, is := msq.Items(w.s, q)
		if !is || !slices.Equal(items, w.holds[q]) {
			w.t.Fatalf("queue %d: %v, %t; want %v", q, items, is, w.holds[q])
		}
		for node := index(w.s.M.W[32+2*q]); node != 0; node = index(w.s.M.W[cell(node, 1)]) {
			if w.s.M.G[node] != api.Live {
				w.t.Fatalf("queue %d: node %d of %v", q, node, w.s.M.G)
			}
		}
	}
	list, is := stack.Walk(w.s.M)
	slices.Sort(list)
	if free, _, _ := alloc.Parts(w.s); !is || !slices.Equal(list, free) {
		w.t.Fatalf("list %v, %t, nodes %v", list, is, w.s.M.G)
	}
}

// rests: has a core done all its works?
func (w *world) rests(id int) bool {
	return len(w.s.C[id].F) == 0 && w.works(id, w.whos[id].begun).op == 0
}

// alone: a core goes on alone, and ends its op within so many steps.
func (w *world) alone(id, most int) {
	w.t.Helper()
	for range most {
		if len(w.s.C[id].F) == 0 {
			return
		}
		w.step(id)
	}
	w.t.Fatalf("core %d doesn't end: %v", id, w.s.C[id])
}

// state tells all on which what comes hangs.
func (w *world) state() string {
	return fmt.Sprint(w.s.M.W[0], w.s.M.W[8:48], w.s.M.W[128:], w.s.M.G, w.s.C, w.whos[:len(w.s.C)], w.holds)
}

// orders goes through all orders of steps, and tells how many states there are; a state to which several lead is gone on from once. Out of one of some states each core goes on alone, and ends.
func (w *world) orders() int {
	came := map[string]bool{w.state(): true}
	ahead := []*world{w}
	for len(ahead) > 0 {
		last := ahead[len(ahead)-1]
		ahead = ahead[:len(ahead)-1]
		for id := range last.s.C {
			if last.rests(id) {
				continue
			}
			a := last.split()
			a.step(id)
			state := a.state()
			if came[state] {
				continue
			}
			came[state] = true
			ahead = append(ahead, a)
			if len(came)%40 == 0 {
				a.split().alone(id, 200)
				a.split().alone((id+1)%len(a.s.C), 200)
			}
		}
	}
	return len(came)
}

// planned is the works of each core, and rest behind them.
func planned(plan ...[]work) func(id, n int) work {
	return func(id, n int) work {
		if n >= len(plan[id]) {
			return work{}
		}
		return plan[id][n]
	}
}

// TestOrders: P8.4, cores that put in and take out a few times, in all orders of steps.
func TestOrders(t *testing.T) {
	enq, deq := work{api.OEnq, 0}, work{api.ODeq, 0}
	for i, c := range []struct {
		nodes int
		items []int
		told  []string
		plan  [][]work
	}{
		{5, []int{0}, []string{"9 0", "10 0"}, [][]work{{enq, deq}, {enq, deq}}},
		{5, []int{0}, []string{"9 0", "10 0", "10 3"}, [][]work{{enq, enq}, {deq, deq}}},
		{5, []int{2}, []string{"9 0", "10 0", "10 3"}, [][]work{{deq, enq}, {deq, deq}}},
		{2, []int{0}, []string{"9 0", "9 2", "10 0", "10 3"}, [][]work{{enq, deq}, {enq, deq}}},
		{3, []int{1}, []string{"9 0", "9 2", "10 0"}, [][]work{{deq, enq, enq}, {deq, enq}}},
		{5, []int{1, 1}, []string{"10 0", "10 3"}, [][]work{{deq, {api.ODeq, 1}}, {{api.ODeq, 1}, deq}}},
		{4, []int{0}, []string{"9 0", "10 0", "10 3"}, [][]work{{enq}, {enq}, {deq}}},
		{4, []int{1}, []string{"9 0", "10 0", "10 3"}, [][]work{{enq}, {deq}, {deq}}},
	} {
		w := newWorld(t, len(c.plan), c.nodes, c.items, planned(c.plan...))
		states := w.orders()
		t.Log(i, states, w.count)
		if states < 1000 {
			t.Errorf("%d: %d states", i, states)
		}
		for _, told := range c.told {
			if w.count[told] == 0 {
				t.Errorf("%d: %s never came", i, told)
			}
		}
	}
}

// TestManyOrders: P8.4, one to eight cores, few nodes and many, one queue and several, long series of steps of which each picks, by a rule, a core and how many steps it does.
func TestManyOrders(t *testing.T) {
	rule := uint64(1)
	pick := func(n int) int {
		rule = rule*6364136223846793005 + 1442695040888963407
		return int(rule>>33) % n
	}
	count := map[string]int{}
	for _, cores := range []int{1, 2, 3, 5, 8} {
		for _, nodes := range []int{3, 3 + cores, 40} {
			for _, queues := range []int{1, 3} {
				works := func(id, n int) work {
					return work{api.OEnq + (n/(1+id%3)+id)%2, (n / 5) % queues}
				}
				for _, burst := range []int{1, 4, 30} {
					w := newWorld(t, cores, nodes, make([]int, queues), works)
					w.count = count
					for range 600 / burst {
						id := pick(cores)
						for range 1 + pick(2*burst) {
							w.step(id)
						}
					}
					for id := range cores {
						w.alone(id, 3000)
					}
				}
			}
		}
	}
	t.Log(count)
	for _, told := range []string{"9 0", "9 2", "10 0", "10 3"} {
		if count[told] < 50 {
			t.Errorf("%s came %d times", told, count[told])
		}
	}
}

// TestStandsStill: P8.4, a core stands still, wherever in its ops, while others go on; they end all theirs, and so does it behind them.
func TestStandsStill(t *testing.T) {
	works := func(id, n int) work {
		if id == 0 && n > 3 {
			return work{}
		}
		return work{api.OEnq + (n+id/2)%2, 0}
	}
	for still := 1; still <= 70; still++ {
		w := newWorld(t, 3, 12, []int{1}, works)
		for range still {
			w.step(0)
		}
		for range 12 {
			for id := 1; id < 3; id++ {
				w.step(id)
				w.alone(id, 300)
			}
		}
		for !w.rests(0) {
			w.step(0)
			w.alone(0, 300)
		}
	}
}
