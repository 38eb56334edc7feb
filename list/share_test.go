package list_test

import (
	"reflect"
	"slices"
	"strconv"
	"testing"

	"hazel/alloc"
	"hazel/api"
	"hazel/core"
	"hazel/list"
	"hazel/stack"
)

// work is what a core does next: an op of a key in the list at a place; op 0 is rest.
type work struct{ op, at, key int }

// item is what a list holds: a key and its value, by which node.
type item struct{ at, key, val, node int }

// who is what one knows of a core: how many works were begun, the last one and its value, and what took effect since that began, with the item at which it did.
type who struct {
	begun int
	work
	val  int
	did  int
	kind int
	item item
}

// world is cores that look for, lay in and take out, the works that each does, one after another, and what the lists at some places hold, by what took effect.
type world struct {
	t     *testing.T
	s     api.Sys
	works func(id, n int) work
	whos  [8]who
	ats   []int
	holds []item
	count map[string]int
}

// newWorld is one whose list at the first of the places has these keys. All keys of which cores' works are must be odd: of others no events are told.
func newWorld(t *testing.T, cores, nodes int, ats []int, keys []int, works func(id, n int) work) *world {
	w := &world{t: t, s: start(t, cores, nodes), works: works, ats: ats, count: map[string]int{}}
	for i, key := range keys {
		w.s = told(t, w.s, i+1, api.OK, 0, api.OIns, ats[0], key, -1-i)
		w.holds = append(w.holds, item{ats[0], key, -1 - i, i + 1})
	}
	w.s.L = nil
	return w
}

// split is another world in the same state.
func (w *world) split() *world {
	c := *w
	return &c
}

// begin begins a core's next work. No two values are the same.
func (w *world) begin(id int) {
	me := &w.whos[id]
	me.work = w.works(id, me.begun)
	me.begun++
	me.val, me.did = 1+id+8*me.begun, 0
	if me.op != 0 {
		w.s = core.Call(w.s, id, me.op, me.at, me.key, me.val)
	}
}

// step is a step of a core; one that has no op at work begins one.
func (w *world) step(id int) {
	w.t.Helper()
	if len(w.s.C[id].F) == 0 {
		w.begin(id)
	}
	before := w.s
	f, is := core.Top(before, id)
	if !is {
		return
	}
	w.s = list.Step(w.s, id)
	w.checkWords(before, id, f)
	for _, e := range w.s.L[len(before.L):] {
		w.effect(id, e, f)
	}
	w.s.L = nil // what took effect is in holds
	if len(w.s.C[id].F) == 0 {
		w.ended(id, f)
	}
	w.checkHolds()
}

// touchless are the steps of which chapter 9 says that they touch no word.
var touchless = map[int][]int{api.OGet: {0, 1}, api.OIns: {0, 1, 4, 5, 11}, api.ODel: {0, 1, 5}}

// checkWords: a step is never Bad, changes no other core and one word at most; one that touches none changes none.
func (w *world) checkWords(before api.Sys, id int, f api.Frame) {
	w.t.Helper()
	changed := 0
	for place, v := range w.s.M.W {
		if v != before.M.W[place] {
			changed++
		}
	}
	most := 1
	if slices.Contains(touchless[f.Op], f.Pc) {
		most = 0
	}
	if w.s.M.Bad || changed > most || len(w.s.C) != len(before.C) || len(w.s.L) > len(before.L)+1 {
		w.t.Fatalf("core %d, op %d, step %d: Bad %t, %d words, events %v", id, f.Op, f.Pc, w.s.M.Bad, changed, w.s.L)
	}
	for other := range w.s.C {
		if other != id && !reflect.DeepEqual(w.s.C[other], before.C[other]) {
			w.t.Fatalf("core %d changed core %d", id, other)
		}
	}
}

// place is where the item of a core's key is among those that are held, or would be.
func (w *world) place(me *who) (int, bool) {
	return slices.BinarySearchFunc(w.holds, me, func(x item, me *who) int {
		if x.at != me.at {
			return x.at - me.at
		}
		return x.key - me.key
	})
}

// effect does at once, at what the lists hold, what a step of a core tells, at the frame f.
func (w *world) effect(id int, e api.Ev, f api.Frame) {
	w.t.Helper()
	me := &w.whos[id]
	if e.Kind == api.ENoMem {
		if slices.Contains(w.s.M.G[1:], api.Free) || e != (api.Ev{Core: id, Kind: e.Kind}) {
			w.t.Fatalf("core %d: %v, nodes %v", id, e, w.s.M.G)
		}
		return
	}
	want := api.Ev{Core: id, Kind: e.Kind, A: me.key}
	place, is := w.place(me)
	me.did, me.kind, me.item = me.did+1, e.Kind, item{}
	if is {
		me.item = w.holds[place]
	}
	there := e.Kind == api.EDel || e.Kind == api.ESeen || e.Kind == api.EHad
	switch e.Kind {
	case api.EIns:
		want.V = me.val
		me.item = item{me.at, me.key, me.val, f.R[3]}
		w.holds = slices.Insert(slices.Clone(w.holds), place, me.item)
	case api.EDel:
		w.holds = slices.Concat(w.holds[:place], w.holds[place+1:])
	}
	if e != want || is != there {
		w.t.Fatalf("core %d: %v, want %v; there are %v", id, e, want, w.holds)
	}
}

// ended holds what an op told against what took effect, just once, since it began; its core names nothing any more.
func (w *world) ended(id int, f api.Frame) {
	w.t.Helper()
	me, c := &w.whos[id], w.s.C[id]
	told := strconv.Itoa(f.Op) + " " + strconv.Itoa(int(c.E))
	w.count[told]++
	kind, v := 0, me.item.val
	switch {
	case told == "12 0":
		kind = api.ESeen
	case told == "12 3", told == "14 3":
		kind, v = api.EGone, 0
	case told == "13 0":
		kind, v = api.EIns, me.item.node
	case told == "13 4":
		kind, v = api.EHad, me.item.node
	case told == "13 2":
		v = 0
	case told == "14 0":
		kind = api.EDel
	default:
		w.t.Fatalf("core %d: op %d told %d, %d", id, f.Op, c.V, c.E)
	}
	once := me.did == 1 && me.kind == kind
	if kind == 0 {
		once = me.did == 0
	}
	if !once || c.V != v || !slices.Equal(w.s.M.W[8+3*id:11+3*id], []int{0, 0, 0}) {
		w.t.Fatalf("core %d: op %d told %d, %d; took effect: %d times, last %d, %v; slots %v", id, f.Op, c.V, c.E, me.did, me.kind, me.item, w.s.M.W[8+3*id:11+3*id])
	}
}

// checkHolds: Keys rise, and are what each list holds; all nodes of lists are Live, gone or not; and the list of free ones is of these.
func (w *world) checkHolds() {
	w.t.Helper()
	left := w.holds
	for _, at := range w.ats {
		keys, vals, is := list.Keys(w.s, at)
		if !is || len(keys) > len(left) {
			w.t.Fatalf("the list at %d: %v, %t; want %v", at, keys, is, left)
		}
		for i, x := range left[:len(keys)] {
			if x.at != at || x.key != keys[i] || x.val != vals[i] {
				w.t.Fatalf("the list at %d: %v, %v; want %v", at, keys, vals, left)
			}
		}
		left = left[len(keys):]
		for node := index(w.s.M.W[at]); node != 0; node = index(w.s.M.W[cell(node, 1)]) {
			if w.s.M.G[node] != api.Live {
				w.t.Fatalf("the list at %d: node %d of %v", at, node, w.s.M.G)
			}
		}
	}
	free, is := stack.Walk(w.s.M)
	slices.Sort(free)
	if parts, _, _ := alloc.Parts(w.s); !is || len(left) > 0 || !slices.Equal(free, parts) {
		w.t.Fatalf("free %v, %t, nodes %v; more held: %v", free, is, w.s.M.G, left)
	}
}

// rests: has a core done all its works?
func (w *world) rests(id int) bool {
	return len(w.s.C[id].F) == 0 && w.works(id, w.whos[id].begun).op == 0
}

// alone: a core goes on alone, and ends its op within so many steps.
func (w *world) alone(id, most int) {
	w.t.Helper()
	for range most {
		if len(w.s.C[id].F) == 0 {
			return
		}
		w.step(id)
	}
	w.t.Fatalf("core %d doesn't end: %v", id, w.s.C[id])
}

// state tells all on which what comes hangs.
func (w *world) state() string {
	var b []byte
	tell := func(l ...int) {
		for _, n := range l {
			b = strconv.AppendInt(append(b, ' '), int64(n), 36)
		}
		b = append(b, '/')
	}
	tell(w.s.M.W...)
	tell(w.s.M.G...)
	for id, c := range w.s.C {
		tell(c.V, int(c.E), c.X[0], c.X[1], c.X[2])
		tell(c.Ret...)
		for _, f := range c.F {
			tell(f.Op, f.Pc)
			tell(f.R[:]...)
			tell(f.S...)
		}
		me := w.whos[id]
		tell(me.begun, me.did, me.kind, me.item.at, me.item.key, me.item.val, me.item.node)
	}
	for _, x := range w.holds {
		tell(x.at, x.key, x.val, x.node)
	}
	return string(b)
}

// orders goes through all orders of steps, and tells how many states there are; a state to which several lead is gone on from once. Out of one of some states each core goes on alone, and ends.
func (w *world) orders() int {
	came := map[string]bool{w.state(): true}
	ahead := []*world{w}
	for len(ahead) > 0 {
		last := ahead[len(ahead)-1]
		ahead = ahead[:len(ahead)-1]
		for id := range last.s.C {
			if last.rests(id) {
				continue
			}
			a := last.split()
			a.step(id)
			state := a.state()
			if came[state] {
				continue
			}
			came[state] = true
			ahead = append(ahead, a)
			if len(came)%100 == 0 {
				a.split().alone(id, 400)
				a.split().alone((id+1)%len(a.s.C), 400)
			}
		}
	}
	return len(came)
}

// planned is the works of each core, and rest behind them.
func planned(plan ...[]work) func(id, n int) work {
	return func(id, n int) work {
		if n >= len(plan[id]) {
			return work{}
		}
		return plan[id][n]
	}
}

func ins(key int) work { return work{api.OIns, spot, key} }
func del(key int) work { return work{api.ODel, spot, key} }
func get(key int) work { return work{api.OGet, spot, key} }

// TestOrders: P9.3, cores that look for, lay in and take out a few times, in all orders of steps.
func TestOrders(t *testing.T) {
	for i, c := range []struct {
		nodes int
		keys  []int
		told  []string
		plan  [][]work
	}{
		{4, nil, []string{"13 0", "13 4", "14 0", "14 3"}, [][]work{{ins(5), del(5)}, {ins(5), del(5)}}},
		{4, []int{5}, []string{"12 0", "12 3", "13 0", "14 0", "14 3"}, [][]work{{del(5), ins(5)}, {get(5), del(5)}}},
		{1, []int{5}, []string{"12 0", "12 3", "13 0", "13 2", "14 0"}, [][]work{{del(5), ins(5)}, {get(5), get(5)}}},
		{2, []int{5}, []string{"13 0", "13 2", "14 0"}, [][]work{{del(5), ins(7)}, {ins(3), del(3)}}},
		{5, []int{3, 5}, []string{"13 0", "14 0"}, [][]work{{del(3), ins(1)}, {del(5), ins(7)}}},
		{5, []int{3, 5, 7}, []string{"12 0", "12 3", "14 0"}, [][]work{{del(5), del(3)}, {get(7), get(5)}}},
		{2, []int{3}, []string{"12 0", "12 3", "13 0", "14 0"}, [][]work{{del(3)}, {ins(5)}, {get(3)}}},
		{3, []int{3, 5}, []string{"13 0", "14 0"}, [][]work{{del(3)}, {del(5), ins(5)}}},
		{2, []int{3, 5}, []string{"12 0", "12 3", "14 0", "14 3"}, [][]work{{del(5)}, {del(5)}, {get(5)}}},
	} {
		w := newWorld(t, len(c.plan), c.nodes, []int{spot}, c.keys, planned(c.plan...))
		states := w.orders()
		t.Log(i, states, w.count)
		if states < 1000 {
			t.Errorf("%d: %d states", i, states)
		}
		for _, told := range c.told {
			if w.count[told] == 0 {
				t.Errorf("%d: %s never came", i, told)
			}
		}
	}
}

// picker is numbers below one that is told, by a rule.
func picker() func(n int) int {
	rule := uint64(1)
	return func(n int) int {
		rule = rule*6364136223846793005 + 1442695040888963407
		return int(rule>>33) % n
	}
}

// TestManyOrders: P9.3, one to eight cores, few nodes and many, one list and several, long series of steps of which each picks, by a rule, a core and how many steps it does.
func TestManyOrders(t *testing.T) {
	pick, count := picker(), map[string]int{}
	for _, cores := range []int{1, 2, 3, 5, 8} {
		for _, nodes := range []int{3, 3 + cores, 40} {
			for _, ats := range [][]int{{spot}, {1, 99, 127}} {
				works := func(id, n int) work {
					h := (n*n*7 + n*(3+id) + id*5) % 61
					return work{api.OGet + h%3, ats[h%len(ats)], 2*(h/3%4) - 3}
				}
				for _, burst := range []int{1, 4, 30} {
					w := newWorld(t, cores, nodes, ats, nil, works)
					w.count = count
					for range 900 / burst {
						id := pick(cores)
						for range 1 + pick(2*burst) {
							w.step(id)
						}
					}
					for id := range cores {
						w.alone(id, 3000)
					}
				}
			}
		}
	}
	t.Log(count)
	for _, told := range []string{"12 0", "12 3", "13 0", "13 2", "13 4", "14 0", "14 3"} {
		if count[told] < 50 {
			t.Errorf("%s came %d times", told, count[told])
		}
	}
}

// TestStandsStill: P9.3, a core stands still, wherever in its ops, while others go on; they end all theirs, and so does it behind them.
func TestStandsStill(t *testing.T) {
	for _, first := range []int{api.OGet, api.OIns, api.ODel} {
		works := func(id, n int) work {
			if id == 0 && n > 2 {
				return work{}
			}
			return work{api.OGet + (n+id+first)%3, spot, 3 + 2*((n/3+id)%3)}
		}
		for still := 1; still <= 90; still++ {
			w := newWorld(t, 3, 9, []int{spot}, []int{3, 7}, works)
			for range still {
				w.step(0)
			}
			for range 9 {
				for id := 1; id < 3; id++ {
					w.step(id)
					w.alone(id, 400)
				}
			}
			for !w.rests(0) {
				w.step(0)
				w.alone(0, 400)
			}
		}
	}
}

// TestEven: P9.1 and P9.3, of even keys no events are told, and all else is as with odd ones: the same ops, at keys that are one less, in the same order of steps.
func TestEven(t *testing.T) {
	pick := picker()
	for range 60 {
		odd, even := start(t, 3, 7), start(t, 3, 7)
		for range 500 {
			id := pick(3)
			if len(odd.C[id].F) == 0 {
				op, key, v := api.OGet+pick(3), 2*pick(3)-1, pick(100)
				odd, even = core.Call(odd, id, op, spot, key, v), core.Call(even, id, op, spot, key-1, v)
			}
			odd, even = list.Step(odd, id), list.Step(even, id)
			if !alike(odd, even) {
				t.Fatalf("%v, %v", odd, even)
			}
		}
	}
}

// alike: are two systems the same, but for keys that are one less, and events that the second one doesn't tell?
func alike(odd, even api.Sys) bool {
	even = clone(even)
	for at := range even.M.W {
		if at >= 128 && at%4 == api.Key && odd.M.W[at] != 0 {
			even.M.W[at]++
		}
	}
	for id, c := range even.C {
		for i := range min(len(c.F), len(odd.C[id].F)) {
			f, g := &c.F[i], odd.C[id].F[i]
			if f.R[1] < g.R[1] {
				f.R[1]++
			}
			if f.Op == api.OFind {
				f.R[6] = g.R[6]
			}
		}
	}
	odd = clone(odd)
	odd.L = slices.DeleteFunc(odd.L, func(e api.Ev) bool { return e.Kind != api.ENoMem })
	return same(odd, even)
}
