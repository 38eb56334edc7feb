package table_test

import (
	"math/bits"
	"reflect"
	"slices"
	"strconv"
	"testing"

	"hazel/alloc"
	"hazel/api"
	"hazel/core"
	"hazel/stack"
	"hazel/table"
)

// work is what a core does next: an op of a name; op 0 is rest.
type work struct{ op, name int }

// item is what a table holds: a name's key, and what the name tells.
type item struct{ key, val int }

// who is what one knows of a core: how many works were begun, the last one and its value, and what took effect since that began, with the item at which it did.
type who struct {
	begun int
	work
	val  int
	did  int
	kind int
	item item
}

// world is cores that lay in, look up and cut, the works that each does, one after another, and what the table holds, by what took effect.
type world struct {
	t     *testing.T
	s     api.Sys
	works func(id, n int) work
	whos  [8]who
	holds []item
	count map[string]int
}

// newWorld is one whose table has these names.
func newWorld(t *testing.T, cores, nodes int, names []int, works func(id, n int) work) *world {
	w := &world{t: t, s: start(t, cores, nodes), works: works, count: map[string]int{}}
	for i, name := range names {
		w.s = told(t, w.s, 0, api.OK, 0, api.OPut, name, -1-i)
		place, _ := w.place(name)
		w.holds = slices.Insert(w.holds, place, item{ord(name), -1 - i})
	}
	w.s.L = nil
	return w
}

// split is another world in the same state.
func (w *world) split() *world {
	c := *w
	return &c
}

// begin begins a core's next work. No two values are the same.
func (w *world) begin(id int) {
	me := &w.whos[id]
	me.work = w.works(id, me.begun)
	me.begun++
	me.val, me.did = 1+id+8*me.begun, 0
	if me.op != 0 {
		w.s = core.Call(w.s, id, me.op, me.name, me.val)
	}
}

// step is a step of a core; one that has no op at work begins one.
func (w *world) step(id int) {
	w.t.Helper()
	if len(w.s.C[id].F) == 0 {
		w.begin(id)
	}
	before := w.s
	f, is := core.Top(before, id)
	if !is {
		return
	}
	w.s = table.Step(w.s, id)
	w.checkWords(before, id, f)
	for _, e := range w.s.L[len(before.L):] {
		w.effect(id, e)
	}
	w.s.L = nil // what took effect is in holds
	if len(w.s.C[id].F) == 0 {
		w.ended(id, f)
	}
	w.checkHolds()
}

// checkWords: a step is never Bad, changes no other core and one word at most; one of which chapter 11 says that it touches none changes none; how many names there are is changed by one, and the size is doubled, if at all.
func (w *world) checkWords(before api.Sys, id int, f api.Frame) {
	w.t.Helper()
	changed, most := 0, 1
	for place, v := range w.s.M.W {
		if v != before.M.W[place] {
			changed++
		}
	}
	if f.Op >= api.OBucket && f.Pc >= 1 && f.Pc <= 3 {
		most = 0
	}
	if w.s.M.Bad || changed > most || len(w.s.C) != len(before.C) || len(w.s.L) > len(before.L)+1 {
		w.t.Fatalf("core %d, op %d, step %d: Bad %t, %d words, events %v", id, f.Op, f.Pc, w.s.M.Bad, changed, w.s.L)
	}
	for other := range w.s.C {
		if other != id && !reflect.DeepEqual(w.s.C[other], before.C[other]) {
			w.t.Fatalf("core %d changed core %d", id, other)
		}
	}
	size, was, more := w.s.M.W[sizeAt], before.M.W[sizeAt], w.s.M.W[countAt]-before.M.W[countAt]
	if size != was && (size != 2*was || size > 16) || more < -1 || more > 1 {
		w.t.Fatalf("core %d, op %d, step %d: size %d, and then %d, %d names more", id, f.Op, f.Pc, was, size, more)
	}
}

// place is where the item of a name is among those that are held, or would be.
func (w *world) place(name int) (int, bool) {
	return slices.BinarySearchFunc(w.holds, ord(name), func(x item, key int) int { return x.key - key })
}

// effect does at once, at what the table holds, what a step of a core tells.
func (w *world) effect(id int, e api.Ev) {
	w.t.Helper()
	me := &w.whos[id]
	if e.Kind == api.ENoMem {
		if slices.Contains(w.s.M.G[1:], api.Free) || e != (api.Ev{Core: id, Kind: e.Kind}) {
			w.t.Fatalf("core %d: %v, nodes %v", id, e, w.s.M.G)
		}
		return
	}
	want := api.Ev{Core: id, Kind: e.Kind, A: ord(me.name)}
	place, is := w.place(me.name)
	me.did, me.kind, me.item = me.did+1, e.Kind, item{}
	if is {
		me.item = w.holds[place]
	}
	switch e.Kind {
	case api.EIns:
		want.V = me.val
		w.holds = slices.Insert(slices.Clone(w.holds), place, item{ord(me.name), me.val})
	case api.EDel:
		w.holds = slices.Concat(w.holds[:place], w.holds[place+1:])
	}
	there := e.Kind == api.EDel || e.Kind == api.ESeen || e.Kind == api.EHad
	if e != want || is != there {
		w.t.Fatalf("core %d: %v, want %v; there are %v", id, e, want, w.holds)
	}
}

// ended holds what an op told against what took effect, just once, since it began; its core names nothing any more.
func (w *world) ended(id int, f api.Frame) {
	w.t.Helper()
	me, c := &w.whos[id], w.s.C[id]
	told := strconv.Itoa(f.Op) + " " + strconv.Itoa(int(c.E))
	w.count[told]++
	kind, v := 0, 0
	switch told {
	case "16 0":
		kind = api.EIns
	case "16 4":
		kind = api.EHad
	case "17 0":
		kind, v = api.ESeen, me.item.val
	case "18 0":
		kind, v = api.EDel, me.item.val
	case "17 3", "18 3":
		kind = api.EGone
	case "16 2", "17 2", "18 2":
	default:
		w.t.Fatalf("core %d: op %d told %d, %d", id, f.Op, c.V, c.E)
	}
	once := me.did == 1 && me.kind == kind
	if kind == 0 {
		once = me.did == 0
	}
	if !once || c.V != v || !slices.Equal(w.s.M.W[8+3*id:11+3*id], []int{0, 0, 0}) {
		w.t.Fatalf("core %d: op %d told %d, %d; took effect: %d times, last %d, %v; slots %v", id, f.Op, c.V, c.E, me.did, me.kind, me.item, w.s.M.W[8+3*id:11+3*id])
	}
}

// checkHolds: Names are what the table holds, by keys; the list of free nodes is of these; where no core is at work there are as many names as are told, and no node is Live but those of the list.
func (w *world) checkHolds() {
	w.t.Helper()
	names, tell, is := table.Names(w.s)
	if !is || len(names) != len(w.holds) || len(tell) != len(w.holds) {
		w.t.Fatalf("%v, %v, %t; want %v", names, tell, is, w.holds)
	}
	for i, x := range w.holds {
		if names[i] != int(bits.Reverse16(uint16(x.key/2))) || tell[i] != x.val {
			w.t.Fatalf("%v, %v; want %v", names, tell, w.holds)
		}
	}
	checkBuckets(w.t, w.s)
	free, is := stack.Walk(w.s.M)
	slices.Sort(free)
	parts, live, _ := alloc.Parts(w.s)
	if !is || !slices.Equal(free, parts) {
		w.t.Fatalf("free %v, %t, nodes %v", free, is, w.s.M.G)
	}
	for _, c := range w.s.C {
		if len(c.F) > 0 {
			return
		}
	}
	nodes := 0
	for node := w.s.M.W[nodesAt]; node != 0; node = index(w.s.M.W[cell(node, 1)]) {
		nodes++
	}
	if w.s.M.W[countAt] != len(w.holds) || nodes != len(live) {
		w.t.Fatalf("at rest: %v, held %v; Live %v, in the list %d", w.s.M.W[sizeAt:66], w.holds, live, nodes)
	}
}

// rests: has a core done all its works?
func (w *world) rests(id int) bool {
	return len(w.s.C[id].F) == 0 && w.works(id, w.whos[id].begun).op == 0
}

// alone: a core goes on alone, and ends its op within so many steps.
func (w *world) alone(id, most int) {
	w.t.Helper()
	for range most {
		if len(w.s.C[id].F) == 0 {
			return
		}
		w.step(id)
	}
	w.t.Fatalf("core %d doesn't end: %v", id, w.s.C[id])
}

// state tells all on which what comes hangs.
func (w *world) state() string {
	var b []byte
	tell := func(l ...int) {
		for _, n := range l {
			b = strconv.AppendInt(append(b, ' '), int64(n), 36)
		}
		b = append(b, '/')
	}
	tell(w.s.M.W...)
	tell(w.s.M.G...)
	for id, c := range w.s.C {
		tell(c.V, int(c.E), c.X[0], c.X[1], c.X[2])
		tell(c.Ret...)
		for _, f := range c.F {
			tell(f.Op, f.Pc)
			tell(f.R[:]...)
			tell(f.S...)
		}
		me := w.whos[id]
		tell(me.begun, me.did, me.kind, me.item.key, me.item.val)
	}
	for _, x := range w.holds {
		tell(x.key, x.val)
	}
	return string(b)
}

// orders goes through all orders of steps, and tells how many states there are; a state to which several lead is gone on from once. Out of one of some states each core goes on alone, and ends.
func (w *world) orders() int {
	came := map[string]bool{w.state(): true}
	ahead := []*world{w}
	for len(ahead) > 0 {
		last := ahead[len(ahead)-1]
		ahead = ahead[:len(ahead)-1]
		for id := range last.s.C {
			if last.rests(id) {
				continue
			}
			a := last.split()
			a.step(id)
			state := a.state()
			if came[state] {
				continue
			}
			came[state] = true
			ahead = append(ahead, a)
			if len(came)%200 == 0 {
				a.split().alone(id, 900)
				a.split().alone((id+1)%len(a.s.C), 900)
			}
		}
	}
	return len(came)
}

// planned is the works of each core, and rest behind them.
func planned(plan ...[]work) func(id, n int) work {
	return func(id, n int) work {
		if n >= len(plan[id]) {
			return work{}
		}
		return plan[id][n]
	}
}

func put(name int) work  { return work{api.OPut, name} }
func look(name int) work { return work{api.OLook, name} }
func cut(name int) work  { return work{api.OCut, name} }

// TestOrders: P11.4, cores that lay in, look up and cut, in all orders of steps: where a bucket is made by several, where the table doubles, and where no node is free.
func TestOrders(t *testing.T) {
	for i, c := range []struct {
		nodes int
		names []int
		told  []string
		plan  [][]work
	}{
		{8, nil, []string{"16 0"}, [][]work{{put(1)}, {put(3)}}},
		{8, nil, []string{"16 0", "16 4"}, [][]work{{put(1)}, {put(1)}}},
		{8, []int{1}, []string{"17 0", "17 3", "18 0"}, [][]work{{cut(1), look(3)}, {look(1)}}},
		{8, []int{2}, []string{"18 0", "18 3"}, [][]work{{cut(2)}, {cut(2)}}},
		{9, []int{0, 2, 4, 6}, []string{"16 0"}, [][]work{{put(8)}, {put(10)}}},
		{12, []int{0, 2, 4, 6}, []string{"16 0", "17 0"}, [][]work{{put(8), look(6)}, {look(6)}}},
		{2, nil, []string{"16 0", "16 2"}, [][]work{{put(0)}, {put(2)}}},
		{2, nil, []string{"16 2", "17 2", "17 3"}, [][]work{{put(1)}, {look(1)}}},
		{3, []int{2}, []string{"16 0", "16 2", "18 0"}, [][]work{{cut(2), put(4)}, {put(6)}}},
		{6, []int{1}, []string{"16 0", "17 0", "18 0"}, [][]work{{cut(1)}, {put(3)}, {look(1)}}},
	} {
		w := newWorld(t, len(c.plan), c.nodes, c.names, planned(c.plan...))
		states := w.orders()
		t.Log(i, states, w.count)
		if states < 200 {
			t.Errorf("%d: %d states", i, states)
		}
		for _, told := range c.told {
			if w.count[told] == 0 {
				t.Errorf("%d: %s never came", i, told)
			}
		}
	}
}

// picker is numbers below one that is told, by a rule.
func picker() func(n int) int {
	rule := uint64(1)
	return func(n int) int {
		rule = rule*6364136223846793005 + 1442695040888963407
		return int(rule>>33) % n
	}
}

// TestManyOrders: P11.4, one to eight cores, few nodes and many, few names and many, long series of steps of which each picks, by a rule, a core and how many steps it does; tables of each size come.
func TestManyOrders(t *testing.T) {
	pick, count, sizes := picker(), map[string]int{}, map[int]int{}
	for _, cores := range []int{1, 2, 3, 5, 8} {
		for _, c := range []struct{ nodes, names, steps int }{{2, 3, 300}, {4, 4, 500}, {9 + cores, 6, 500}, {60, 5, 500}, {60, 17, 700}, {150, 70, 900}} {
			works := func(id, n int) work {
				h := (n*n*7 + n*(3+id) + id*5) % 997
				if c.names > 10 && h%7 < 3 {
					return put(h % c.names * 937 % 65536)
				}
				return work{api.OPut + h%3, h / 3 % c.names * 937 % 65536}
			}
			for _, burst := range []int{1, 4, 30} {
				w := newWorld(t, cores, c.nodes, nil, works)
				w.count = count
				for range c.steps / burst {
					id := pick(cores)
					for range 1 + pick(2*burst) {
						w.step(id)
					}
				}
				for id := range cores {
					w.alone(id, 5000)
				}
				sizes[w.s.M.W[sizeAt]]++
			}
		}
	}
	t.Log(count, sizes)
	for _, told := range []string{"16 0", "16 2", "16 4", "17 0", "17 2", "17 3", "18 0", "18 2", "18 3"} {
		if count[told] < 20 {
			t.Errorf("%s came %d times", told, count[told])
		}
	}
	for _, size := range []int{2, 4, 8, 16} {
		if sizes[size] == 0 {
			t.Errorf("no size %d", size)
		}
	}
}

// TestStandsStill: P11.4, a core stands still, wherever in its ops, while others go on, and the table doubles; they end all theirs, and so does it behind them.
func TestStandsStill(t *testing.T) {
	for _, first := range []int{api.OPut, api.OLook, api.OCut} {
		works := func(id, n int) work {
			if id == 0 && n > 2 {
				return work{}
			}
			return work{api.OPut + (n*n+id+first)%3, (n + 3*id) % 7}
		}
		for still := 1; still <= 110; still += 1 + still%2 {
			w := newWorld(t, 3, 30, []int{7, 3, 15}, works)
			for range still {
				w.step(0)
			}
			for range 6 {
				for id := 1; id < 3; id++ {
					w.step(id)
					w.alone(id, 900)
				}
			}
			for !w.rests(0) {
				w.step(0)
				w.alone(0, 900)
			}
		}
	}
}
