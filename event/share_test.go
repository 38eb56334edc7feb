package event_test

import (
	"reflect"
	"strconv"
	"testing"

	"hazel/api"
	"hazel/core"
	"hazel/event"
)

// work is what a core does next: an op of an event; op 0 is rest.
type work struct{ op, e int }

// who is what one knows of a core: how many works were begun, the last one, and what took effect since that began.
type who struct {
	begun int
	work
	did, kind, v int
}

// world is cores that set, reset and test, the works that each does, one after another, and which events are set, by what took effect; due is how often one that resets itself was set and not reset, or set again, ahead of a test that told so.
type world struct {
	t     *testing.T
	s     api.Sys
	works func(id, n int) work
	whos  [8]who
	holds [16]int
	due   [16]int
	count map[string]int
}

// newWorld is one in which these events are set.
func newWorld(t *testing.T, cores int, set []int, works func(id, n int) work) *world {
	w := &world{t: t, s: start(t, cores), works: works, count: map[string]int{}}
	for _, e := range set {
		w.s = told(t, w.s, 0, 0, api.OSet, e)
		w.holds[e], w.due[e] = 1, 1
	}
	w.s.L = nil
	return w
}

// split is another world in the same state.
func (w *world) split() *world {
	c := *w
	return &c
}

// begin begins a core's next work.
func (w *world) begin(id int) {
	me := &w.whos[id]
	me.work = w.works(id, me.begun)
	me.begun++
	me.did = 0
	if me.op != 0 {
		w.s = core.Call(w.s, id, me.op, me.e)
	}
}

// step is a step of a core; one that has no op at work begins one.
func (w *world) step(id int) {
	w.t.Helper()
	if len(w.s.C[id].F) == 0 {
		w.begin(id)
	}
	before := w.s
	f, is := core.Top(before, id)
	if !is {
		return
	}
	w.s = event.Step(w.s, id)
	w.checkWords(before, id, f)
	for _, e := range w.s.L {
		w.effect(id, e)
	}
	w.s.L = nil // what took effect is in holds
	if len(w.s.C[id].F) == 0 {
		w.ended(id, f)
	}
	w.checkHolds()
}

// checkWords: a step is never Bad, changes no other core and no word but the event's, and that only where it takes effect.
func (w *world) checkWords(before api.Sys, id int, f api.Frame) {
	w.t.Helper()
	if w.s.M.Bad || len(w.s.C) != len(before.C) || len(w.s.L) > 1 {
		w.t.Fatalf("core %d, op %d, step %d: Bad %t, events %v", id, f.Op, f.Pc, w.s.M.Bad, w.s.L)
	}
	for place, v := range w.s.M.W {
		if v != before.M.W[place] && (place != 80+f.R[0] || f.Pc == 0 || len(w.s.L) == 0) {
			w.t.Fatalf("core %d, op %d, step %d: word %d, events %v", id, f.Op, f.Pc, place, w.s.L)
		}
	}
	for other := range w.s.C {
		if other != id && !reflect.DeepEqual(w.s.C[other], before.C[other]) {
			w.t.Fatalf("core %d changed core %d", id, other)
		}
	}
}

// effect does at once, at the events, what a step of a core tells.
func (w *world) effect(id int, ev api.Ev) {
	w.t.Helper()
	me := &w.whos[id]
	want := api.Ev{Core: id, A: me.e}
	self := me.e%2 == 1
	switch me.op {
	case api.OSet:
		want.Kind, w.holds[me.e], w.due[me.e] = api.ESet, 1, 1
	case api.OReset:
		want.Kind, w.holds[me.e], w.due[me.e] = api.EReset, 0, 0
	case api.OTest:
		want.Kind, want.V = api.ETest, w.holds[me.e]
		if self {
			w.holds[me.e] = 0
		}
	}
	if self && ev.Kind == api.ETest && ev.V == 1 {
		w.due[me.e]--
	}
	if ev != want || w.due[me.e] < 0 {
		w.t.Fatalf("core %d: %v, want %v; set %v, due %v", id, ev, want, w.holds, w.due)
	}
	me.did, me.kind, me.v = me.did+1, ev.Kind, ev.V
}

// ended holds what an op told against what took effect, just once, since it began.
func (w *world) ended(id int, f api.Frame) {
	w.t.Helper()
	me, c := &w.whos[id], w.s.C[id]
	w.count[strconv.Itoa(f.Op)+" "+strconv.Itoa(c.V)]++
	if me.did != 1 || me.v != c.V || c.E != api.OK || f.Op != me.op {
		w.t.Fatalf("core %d: op %d told %d, %d; took effect: %d times, last %d, %d", id, f.Op, c.V, c.E, me.did, me.kind, me.v)
	}
}

// checkHolds: Is tells of all events whether they are set, and whether they reset themselves, which stays; one that resets itself and is set is due to be told so.
func (w *world) checkHolds() {
	w.t.Helper()
	for e, is := range w.holds {
		set, self := event.Is(w.s, e)
		if set != (is == 1) || self != (e%2 == 1) || self && is != w.due[e] {
			w.t.Fatalf("event %d: %t, %t; set %v, due %v", e, set, self, w.holds, w.due)
		}
	}
}

// rests: has a core done all its works?
func (w *world) rests(id int) bool {
	return len(w.s.C[id].F) == 0 && w.works(id, w.whos[id].begun).op == 0
}

// alone: a core goes on alone, and ends its op: it fails to swap but once, and that by what others did ahead.
func (w *world) alone(id int) {
	w.t.Helper()
	for range 3 {
		if len(w.s.C[id].F) > 0 {
			w.step(id)
		}
	}
	if len(w.s.C[id].F) > 0 {
		w.t.Fatalf("core %d doesn't end: %v", id, w.s.C[id])
	}
}

// state tells all on which what comes hangs.
func (w *world) state() string {
	var b []byte
	tell := func(l ...int) {
		for _, n := range l {
			b = strconv.AppendInt(append(b, ' '), int64(n), 36)
		}
		b = append(b, '/')
	}
	tell(w.s.M.W[eventAt:96]...)
	for id, c := range w.s.C {
		tell(c.V, int(c.E))
		for _, f := range c.F {
			tell(f.Op, f.Pc)
			tell(f.R[:]...)
		}
		me := w.whos[id]
		tell(me.begun, me.did, me.kind, me.v)
	}
	tell(w.holds[:]...)
	tell(w.due[:]...)
	return string(b)
}

// orders goes through all orders of steps, and tells how many states there are; a state to which several lead is gone on from once. Out of each state each core goes on alone, and ends.
func (w *world) orders() int {
	came := map[string]bool{w.state(): true}
	ahead := []*world{w}
	for len(ahead) > 0 {
		last := ahead[len(ahead)-1]
		ahead = ahead[:len(ahead)-1]
		for id := range last.s.C {
			last.split().alone(id)
			if last.rests(id) {
				continue
			}
			a := last.split()
			a.step(id)
			if state := a.state(); !came[state] {
				came[state] = true
				ahead = append(ahead, a)
			}
		}
	}
	return len(came)
}

// planned is the works of each core, and rest behind them.
func planned(plan ...[]work) func(id, n int) work {
	return func(id, n int) work {
		if n >= len(plan[id]) {
			return work{}
		}
		return plan[id][n]
	}
}

func set(e int) work   { return work{api.OSet, e} }
func reset(e int) work { return work{api.OReset, e} }
func test(e int) work  { return work{api.OTest, e} }

// TestOrders: P12.3, cores that set, reset and test, in all orders of steps: an event that resets itself, one that doesn't, and both.
func TestOrders(t *testing.T) {
	for i, c := range []struct {
		set  []int
		told []string
		plan [][]work
	}{
		{[]int{1}, []string{"21 0", "21 1"}, [][]work{{test(1)}, {test(1)}, {test(1)}}},
		{nil, []string{"19 0", "21 0", "21 1"}, [][]work{{set(1)}, {test(1), test(1)}, {test(1)}}},
		{nil, []string{"19 0", "21 0", "21 1"}, [][]work{{set(1), set(1)}, {test(1), test(1)}, {test(1), test(1)}}},
		{[]int{1}, []string{"19 0", "20 0", "21 0", "21 1"}, [][]work{{test(1), set(1)}, {reset(1), test(1)}, {test(1)}}},
		{[]int{1}, []string{"20 0", "21 0", "21 1"}, [][]work{{reset(1)}, {reset(1), test(1)}, {set(1), test(1)}}},
		{nil, []string{"19 0", "21 0", "21 1"}, [][]work{{set(2)}, {test(2), test(2)}, {test(2)}}},
		{[]int{2}, []string{"19 0", "20 0", "21 0", "21 1"}, [][]work{{reset(2), test(2)}, {set(2), test(2)}, {test(2), reset(2)}}},
		{[]int{15, 0}, []string{"19 0", "20 0", "21 0", "21 1"}, [][]work{{test(15), set(0)}, {test(0), reset(15)}, {set(15), test(0)}}},
		{[]int{1}, []string{"19 0", "20 0", "21 0", "21 1"}, [][]work{{test(1)}, {set(1)}, {reset(1)}, {test(1)}}},
	} {
		w := newWorld(t, len(c.plan), c.set, planned(c.plan...))
		states := w.orders()
		t.Log(i, states, w.count)
		if states < 25 {
			t.Errorf("%d: %d states", i, states)
		}
		for _, told := range c.told {
			if w.count[told] == 0 {
				t.Errorf("%d: %s never came", i, told)
			}
		}
	}
}

// picker is numbers below one that is told, by a rule.
func picker() func(n int) int {
	rule := uint64(1)
	return func(n int) int {
		rule = rule*6364136223846793005 + 1442695040888963407
		return int(rule>>33) % n
	}
}

// TestManyOrders: P12.3, one to eight cores, one event and many, long series of steps of which each picks, by a rule, a core and how many steps it does.
func TestManyOrders(t *testing.T) {
	pick, count := picker(), map[string]int{}
	for cores := 1; cores <= 8; cores++ {
		for _, events := range []int{1, 2, 5, 16} {
			works := func(id, n int) work {
				h := (n*n*7 + n*(3+id) + id*5) % 997
				return work{api.OSet + h%3, (h/3%events + 1) % 16}
			}
			for _, burst := range []int{1, 3} {
				w := newWorld(t, cores, nil, works)
				w.count = count
				for range 600 {
					id := pick(cores)
					for range 1 + pick(2*burst) {
						w.step(id)
					}
				}
				for id := range cores {
					w.alone(id)
				}
			}
		}
	}
	t.Log(count)
	for _, told := range []string{"19 0", "20 0", "21 0", "21 1"} {
		if count[told] < 500 {
			t.Errorf("%s came %d times", told, count[told])
		}
	}
}

// TestStandsStill: P12.3, a core stands still, wherever in its ops, while others go on and end all theirs; behind them it ends its own.
func TestStandsStill(t *testing.T) {
	for first := range 3 {
		for still := range 14 {
			w := newWorld(t, 3, []int{1}, func(id, n int) work {
				if id == 0 && n > 4 {
					return work{}
				}
				return work{ops[(n*n+id+first)%3], 1 + n/4%2}
			})
			for range still {
				w.step(0)
			}
			for range 30 {
				for id := 1; id < 3; id++ {
					w.step(id)
					w.alone(id)
				}
			}
			for !w.rests(0) {
				w.step(0)
				w.alone(0)
			}
		}
	}
}

// TestJustOne: P12.3, eight cores test an event that resets itself, all at the same steps: each time that it is set just one is told so.
func TestJustOne(t *testing.T) {
	s := start(t, 8)
	for times := range 4 {
		if times > 0 {
			s = told(t, s, 0, 0, api.OSet, 7)
		}
		for id := range s.C {
			s = core.Call(s, id, api.OTest, 7)
		}
		for range 4 {
			for id := range s.C {
				s = event.Step(s, id)
			}
		}
		is := 0
		for id, c := range s.C {
			is += c.V
			if len(c.F) > 0 {
				t.Errorf("%d: core %d doesn't end: %v", times, id, c)
			}
		}
		if is != min(times, 1) || s.M.W[87] != packed(2*times, 0, 1) {
			t.Errorf("%d: %d are told that it is set: %v", times, is, s.C)
		}
	}
}
