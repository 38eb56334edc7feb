package mem_test

import (
	"math"
	"reflect"
	"slices"
	"testing"

	"hazel/api"
	"hazel/mem"
)

// sizes are of arenas, with both ends.
func sizes() []int { return []int{1, 2, 3, 17, 199, 200} }

// kinds are what a node may be.
func kinds() []int { return []int{api.Free, api.Live, api.Retired} }

// lay is an arena of n nodes, written out by hand: no two words are the same, none is 0, and the nodes are the kinds in turn, from the first one on.
func lay(n, first int) api.Mem {
	m := api.Mem{}
	for i := range 128 + 4*n {
		m.W = append(m.W, 1000+7*i)
	}
	m.G = append(m.G, 0)
	for i := range n {
		m.G = append(m.G, (first+i)%3)
	}
	return m
}

// clone is the same arena in other memory.
func clone(m api.Mem) api.Mem {
	return api.Mem{W: slices.Clone(m.W), G: slices.Clone(m.G), Bad: m.Bad}
}

// same: are two arenas the same, all of it, held against each other without the package?
func same(a, b api.Mem) bool {
	return a.Bad == b.Bad && slices.Equal(a.W, b.W) && slices.Equal(a.G, b.G)
}

// with is the arena with one word changed.
func with(m api.Mem, at, v int) api.Mem {
	c := clone(m)
	c.W[at] = v
	return c
}

// badIf is the arena, and Bad if it was or is told.
func badIf(m api.Mem, bad bool) api.Mem {
	c := clone(m)
	c.Bad = c.Bad || bad
	return c
}

// guards tells the node of each place of an arena of n nodes (0: it isn't guarded), counted from the first word on.
func guards(n int) []int {
	l := make([]int, 128)
	for node := 1; node <= n; node++ {
		l = append(l, 0, node, node, node)
	}
	return l
}

// noPlaces are none of an arena's: below 0 and behind the last word.
func noPlaces(m api.Mem) []int {
	n := len(m.W)
	return []int{-1, -2, -4, -128, -n, math.MinInt, math.MinInt + 1, n, n + 1, n + 2, n + 3, n + 4, 128 + 4*200, 1 << 20, 1 << 40, math.MaxInt - 1, math.MaxInt}
}

// someArenas are right: of all sizes, with the nodes each of the kinds, Bad and not.
func someArenas() []api.Mem {
	l := []api.Mem{}
	for _, n := range sizes() {
		for _, first := range kinds() {
			m := lay(n, first)
			l = append(l, m, badIf(m, true))
		}
	}
	return l
}

// wrongArenas aren't right, each for one cause.
func wrongArenas() []api.Mem {
	words := func(n int) []int { return make([]int, n) }
	l := []api.Mem{
		{},
		{Bad: true},
		{W: []int{}, G: []int{}},
		{W: words(132)},
		{W: words(124)},
		{G: []int{0, 0}},
		{W: words(128), G: []int{0}},
		{W: words(132), G: []int{0}},
		{W: words(128), G: []int{0, 0}},
		{W: words(4), G: []int{0, 0}},
		{W: words(131), G: []int{0, 0}},
		{W: words(133), G: []int{0, 0}},
		{W: words(136), G: []int{0, 0}},
		{W: words(132), G: []int{0, 0, 0}},
		{W: words(927), G: words(201)},
		{W: words(929), G: words(201)},
		{W: words(924), G: words(201)},
		{W: words(932), G: words(201)},
		{W: words(928), G: words(202)},
		{W: words(932), G: words(202)},
		{W: words(1128), G: words(251)},
	}
	for _, n := range sizes() {
		for _, is := range []int{-1, 3, 4, math.MinInt, math.MaxInt} {
			for _, node := range []int{0, 1, n} {
				m := lay(n, 0)
				m.G[node] = is
				l = append(l, m)
			}
		}
		for _, is := range []int{api.Live, api.Retired} {
			m := lay(n, 0)
			m.G[0] = is
			l = append(l, m)
		}
	}
	return l
}

// TestNew: P2.1, arenas from the least to the greatest.
func TestNew(t *testing.T) {
	for n := 1; n <= 200; n++ {
		m, e := mem.New(n)
		if e != api.OK || m.Bad || len(m.W) != 128+4*n || len(m.G) != 1+n {
			t.Fatalf("New(%d): %d words, %d in G, Bad %t, %d", n, len(m.W), len(m.G), m.Bad, e)
		}
		for at, w := range m.W {
			if w != 0 {
				t.Errorf("New(%d): %d at %d", n, w, at)
			}
		}
		for node, is := range m.G {
			if is != api.Free {
				t.Errorf("New(%d): node %d is %d", n, node, is)
			}
		}
	}
	if m, _ := mem.New(1); len(m.W) != 132 {
		t.Errorf("New(1): %d words; want 132", len(m.W))
	}
}

// TestNewWrong: P2.1, sizes that no arena has; the arena beside the error is none.
func TestNewWrong(t *testing.T) {
	for _, n := range []int{0, -1, -2, -200, math.MinInt, 201, 202, 1 << 20, 1 << 62, math.MaxInt} {
		if m, e := mem.New(n); e != api.ErrArg || len(m.W) != 0 || len(m.G) != 0 || m.Bad {
			t.Errorf("New(%d) = %v, %d; want none, ErrArg", n, m, e)
		}
	}
}

// TestNewIsAnother: P2.1 and R4, no two arenas share anything.
func TestNewIsAnother(t *testing.T) {
	a, _ := mem.New(2)
	for at := range a.W {
		a.W[at] = 5
	}
	a.G[1] = api.Live
	b, _ := mem.New(2)
	if b.W[0] != 0 || b.W[135] != 0 || b.G[1] != api.Free {
		t.Errorf("New(2) once more: %v", b)
	}
}

// TestRight: P2.1, of arenas that are, also such as were never made by New, and Bad ones.
func TestRight(t *testing.T) {
	for _, m := range someArenas() {
		if !mem.Right(m) {
			t.Errorf("an arena of %d nodes, G %v: not right", len(m.G)-1, m.G)
		}
	}
	for n := 1; n <= 200; n++ {
		if m, _ := mem.New(n); !mem.Right(m) {
			t.Errorf("New(%d): not right", n)
		}
	}
}

// TestRightWrong: P2.1, of arenas that aren't.
func TestRightWrong(t *testing.T) {
	for i, m := range wrongArenas() {
		if mem.Right(m) {
			t.Errorf("%d: %d words, G %v: right", i, len(m.W), m.G)
		}
	}
}

// TestAt: P2.1, each cell of nodes, and the edges of what is spoken of.
func TestAt(t *testing.T) {
	for _, x := range [][3]int{
		{1, 0, 128}, {1, 1, 129}, {1, 2, 130}, {1, 3, 131},
		{2, 0, 132}, {2, 3, 135},
		{200, 0, 924}, {200, 1, 925}, {200, 2, 926}, {200, 3, 927},
		{0, 0, 124}, {0, 3, 127}, {0, 4, 128}, {1, 4, 132},
		{0, 1 << 20, 1048700},
		{1 << 20, 0, 4194428},
		{1 << 20, 1 << 20, 5243004},
	} {
		if at := mem.At(x[0], x[1]); at != x[2] {
			t.Errorf("At(%d, %d) = %d; want %d", x[0], x[1], at, x[2])
		}
	}
	at := 128
	for node := 1; node <= 200; node++ {
		for _, cell := range []int{api.Link, api.Next, api.Key, api.Val} {
			if got := mem.At(node, cell); got != at {
				t.Errorf("At(%d, %d) = %d; want %d", node, cell, got, at)
			}
			at++
		}
	}
}

// TestNode: P2.1, each place of an arena, and places that it hasn't.
func TestNode(t *testing.T) {
	for _, m := range someArenas() {
		n := len(m.G) - 1
		for at, node := range guards(n) {
			if got := mem.Node(m, at); got != node {
				t.Errorf("of %d nodes: Node(%d) = %d; want %d", n, at, got, node)
			}
		}
		for _, at := range noPlaces(m) {
			if got := mem.Node(m, at); got != 0 {
				t.Errorf("of %d nodes: Node(%d) = %d; want 0", n, at, got)
			}
		}
	}
}

// TestCount: P2.1, nodes that are something; what stands first in G is of none.
func TestCount(t *testing.T) {
	for _, m := range someArenas() {
		want := map[int]int{}
		for node := 1; node < len(m.G); node++ {
			want[m.G[node]]++
		}
		for _, what := range []int{api.Free, api.Live, api.Retired, 3, 4, -1, math.MinInt, math.MaxInt} {
			if got := mem.Count(m, what); got != want[what] {
				t.Errorf("G %v: Count(%d) = %d; want %d", m.G, what, got, want[what])
			}
		}
	}
	for _, n := range sizes() {
		if m, _ := mem.New(n); mem.Count(m, api.Free) != n || mem.Count(m, api.Live) != 0 || mem.Count(m, api.Retired) != 0 {
			t.Errorf("New(%d): Count(Free) = %d", n, mem.Count(m, api.Free))
		}
	}
}

// TestSame: P2.1, arenas held against others of the same elements, and each change of one element.
func TestSame(t *testing.T) {
	check := func(a, b api.Mem, want bool) {
		t.Helper()
		if mem.Same(a, b) != want || mem.Same(b, a) != want {
			t.Errorf("Same of %v and %v: %t, %t; want %t", a, b, mem.Same(a, b), mem.Same(b, a), want)
		}
	}
	for _, m := range append(someArenas(), wrongArenas()...) {
		check(m, m, true)
		check(m, clone(m), true)
		other := clone(m)
		other.Bad = !other.Bad
		check(m, other, false)
		check(m, api.Mem{W: append(clone(m).W, 0), G: m.G, Bad: m.Bad}, false)
		check(m, api.Mem{W: m.W, G: append(clone(m).G, 0), Bad: m.Bad}, false)
		for at := range m.W {
			check(m, with(m, at, m.W[at]+1), false)
		}
		for node := range m.G {
			other := clone(m)
			other.G[node]++
			check(m, other, false)
		}
	}
	check(lay(3, 0), lay(3, 1), false)
	check(lay(1, 0), lay(2, 0), false)
}

// TestSameEmpty: P2.1 and R3, a list without elements is the same, nil or not.
func TestSameEmpty(t *testing.T) {
	if !mem.Same(api.Mem{}, api.Mem{W: []int{}, G: []int{}}) || !mem.Same(api.Mem{W: []int{}}, api.Mem{G: []int{}}) {
		t.Error("Same of arenas without anything: no")
	}
	if mem.Same(api.Mem{W: []int{0}}, api.Mem{G: []int{0}}) || mem.Same(api.Mem{W: []int{0}}, api.Mem{}) {
		t.Error("Same of an arena of a word and others: yes")
	}
}

// touched is what an arena is behind a touch of a place of that node (0: it isn't guarded): Bad, if the node is Free.
func touched(m api.Mem, node int) api.Mem {
	return badIf(m, node > 0 && m.G[node] == api.Free)
}

// TestLoad: P2.2, each word of arenas of all sizes.
func TestLoad(t *testing.T) {
	for _, m := range someArenas() {
		for at, node := range guards(len(m.G) - 1) {
			got, v := mem.Load(m, at)
			if v != m.W[at] || !same(got, touched(m, node)) {
				t.Fatalf("of %d nodes: Load(%d): %d, Bad %t", len(m.G)-1, at, v, got.Bad)
			}
		}
	}
}

// TestStore: P2.2, at each place, of a word that is there, of 0, and of the ends of numbers.
func TestStore(t *testing.T) {
	for _, m := range someArenas() {
		for at, node := range guards(len(m.G) - 1) {
			want := touched(m, node)
			for _, v := range []int{m.W[at], 0, -1, math.MaxInt, math.MinInt} {
				want.W[at] = v
				if got := mem.Store(m, at, v); !same(got, want) {
					t.Fatalf("of %d nodes: Store(%d, %d): %d, Bad %t", len(m.G)-1, at, v, got.W[at], got.Bad)
				}
			}
		}
	}
}

// TestCas: P2.2, at each place, of the word that is there, which is swapped for others and for itself.
func TestCas(t *testing.T) {
	for _, m := range someArenas() {
		for at, node := range guards(len(m.G) - 1) {
			want := touched(m, node)
			for _, v := range []int{m.W[at], 0, math.MaxInt, math.MinInt} {
				want.W[at] = v
				if got, is := mem.Cas(m, at, m.W[at], v); !is || !same(got, want) {
					t.Fatalf("of %d nodes: Cas(%d, %d, %d): %t, %d, Bad %t", len(m.G)-1, at, m.W[at], v, is, got.W[at], got.Bad)
				}
			}
		}
	}
}

// TestCasFails: P2.2 and P2.4, at each place, of words that aren't there.
func TestCasFails(t *testing.T) {
	for _, m := range someArenas() {
		for at, node := range guards(len(m.G) - 1) {
			want := touched(m, node)
			for _, old := range []int{m.W[at] + 1, m.W[at] - 1, -m.W[at], 0} {
				if got, is := mem.Cas(m, at, old, 5); is || !same(got, want) {
					t.Fatalf("of %d nodes: Cas(%d, %d, 5): %t, %d, Bad %t", len(m.G)-1, at, old, is, got.W[at], got.Bad)
				}
			}
		}
	}
}

// TestNoPlace: P2.2, places that aren't there: Bad, and nothing else.
func TestNoPlace(t *testing.T) {
	for _, m := range someArenas() {
		want := badIf(m, true)
		for _, at := range noPlaces(m) {
			if got, v := mem.Load(m, at); v != 0 || !same(got, want) {
				t.Errorf("of %d nodes: Load(%d): %d, Bad %t", len(m.G)-1, at, v, got.Bad)
			}
			for _, w := range []int{0, 5, m.W[0]} {
				if got := mem.Store(m, at, w); !same(got, want) {
					t.Errorf("of %d nodes: Store(%d, %d): Bad %t", len(m.G)-1, at, w, got.Bad)
				}
				if got, is := mem.Cas(m, at, w, 9); is || !same(got, want) {
					t.Errorf("of %d nodes: Cas(%d, %d, 9): %t, Bad %t", len(m.G)-1, at, w, is, got.Bad)
				}
			}
		}
	}
}

// TestGuard: P2.2, which cells of the first and the last node are Bad to touch, written out: none of a node that is Live or Retired; all but the link of a Free one; and no root.
func TestGuard(t *testing.T) {
	for _, n := range sizes() {
		for _, is := range kinds() {
			for _, node := range []int{1, n} {
				m := lay(n, 0)
				for other := 1; other <= n; other++ {
					m.G[other] = api.Live
				}
				m.G[node] = is
				for cell := range 4 {
					checkBad(t, m, 128+4*(node-1)+cell, is == api.Free && cell != api.Link)
				}
				for _, root := range []int{0, 1, 126, 127} {
					checkBad(t, m, root, false)
				}
			}
		}
	}
}

func checkBad(t *testing.T, m api.Mem, at int, want bool) {
	t.Helper()
	a, _ := mem.Load(m, at)
	b := mem.Store(m, at, 5)
	c, _ := mem.Cas(m, at, m.W[at], 5)
	d, _ := mem.Cas(m, at, m.W[at]+1, 5)
	if a.Bad != want || b.Bad != want || c.Bad != want || d.Bad != want {
		t.Errorf("G %v: touched at %d: Bad %t, %t, %t, %t; want %t", m.G, at, a.Bad, b.Bad, c.Bad, d.Bad, want)
	}
}

// TestTurn: P2.3, from each kind to each, and to what is none.
func TestTurn(t *testing.T) {
	may := map[[2]int]bool{
		{api.Free, api.Live}:    true,
		{api.Live, api.Retired}: true,
		{api.Live, api.Free}:    true,
		{api.Retired, api.Free}: true,
	}
	for _, m := range someArenas() {
		for node := 1; node < len(m.G); node++ {
			for _, to := range []int{api.Free, api.Live, api.Retired, 3, 4, -1, -2, math.MinInt, math.MaxInt} {
				want := clone(m)
				if may[[2]int{m.G[node], to}] {
					want.G[node] = to
				} else {
					want.Bad = true
				}
				if got := mem.Turn(m, node, to); !same(got, want) {
					t.Fatalf("of %d nodes: Turn(%d, %d), which is %d: %d, Bad %t", len(m.G)-1, node, to, m.G[node], got.G[node], got.Bad)
				}
			}
		}
	}
}

// TestTurnNoNode: P2.3, nodes that aren't there, whatever they are to be: Bad, and nothing else.
func TestTurnNoNode(t *testing.T) {
	for _, m := range someArenas() {
		n := len(m.G) - 1
		for _, node := range []int{0, -1, -2, -n, math.MinInt, n + 1, n + 2, 201, 1 << 40, math.MaxInt} {
			for _, to := range []int{api.Free, api.Live, api.Retired, 3, -1} {
				if got := mem.Turn(m, node, to); !same(got, badIf(m, true)) {
					t.Errorf("of %d nodes: Turn(%d, %d): G %v, Bad %t", n, node, to, got.G, got.Bad)
				}
			}
		}
	}
}

// TestLife: P2.2 and P2.3, a node's cells are touched while it is Live and Retired, and not ahead of that or behind it.
func TestLife(t *testing.T) {
	m, _ := mem.New(1)
	at := mem.At(1, api.Val)
	if got, v := mem.Load(m, at); at != 131 || v != 0 || !got.Bad {
		t.Errorf("ahead of Turn: Load(%d): %d, Bad %t", at, v, got.Bad)
	}
	for _, to := range []int{api.Live, api.Retired} {
		m = mem.Turn(m, 1, to)
		m = mem.Store(m, at, 40+to)
		got, v := mem.Load(m, at)
		if v != 40+to || got.Bad {
			t.Errorf("turned to %d: %d, Bad %t", to, v, got.Bad)
		}
	}
	m = mem.Turn(m, 1, api.Free)
	if got, v := mem.Load(m, at); m.Bad || v != 42 || !got.Bad {
		t.Errorf("free again: %d, Bad %t, then %t", v, m.Bad, got.Bad)
	}
}

// TestStoredIsLoaded: P2.4, behind each store all words are loaded, the one that was stored and those that weren't.
func TestStoredIsLoaded(t *testing.T) {
	for _, n := range []int{1, 3} {
		m, _ := mem.New(n)
		want := slices.Clone(m.W)
		for at := range want {
			m = mem.Store(m, at, 500+at)
			want[at] = 500 + at
			for i, w := range want {
				if _, v := mem.Load(m, i); v != w {
					t.Fatalf("of %d nodes: stored at %d; Load(%d) = %d; want %d", n, at, i, v, w)
				}
			}
		}
	}
}

// TestBadStays: P2.4, whatever is done to an arena that is Bad, also where that alone would not be.
func TestBadStays(t *testing.T) {
	for _, n := range sizes() {
		m := badIf(lay(n, api.Free), true)
		for _, at := range []int{0, 127, 128, 129, len(m.W) - 1, len(m.W), -1} {
			a, _ := mem.Load(m, at)
			b := mem.Store(m, at, 5)
			c, _ := mem.Cas(m, at, 1000+7*at, 5)
			d, _ := mem.Cas(m, at, 1, 5)
			if !a.Bad || !b.Bad || !c.Bad || !d.Bad {
				t.Errorf("of %d nodes: touched at %d: Bad %t, %t, %t, %t", n, at, a.Bad, b.Bad, c.Bad, d.Bad)
			}
		}
		for _, to := range kinds() {
			if !mem.Turn(m, 1, to).Bad {
				t.Errorf("of %d nodes: turned to %d: not Bad", n, to)
			}
		}
	}
}

// TestSeries: P2.2 to P2.4, many calls in a row on one arena beside a plain one that is written into.
func TestSeries(t *testing.T) {
	may := map[[2]int]bool{{0, 1}: true, {1, 2}: true, {1, 0}: true, {2, 0}: true}
	seed := 1
	pick := func(n int) int {
		seed = (seed*1103515245 + 12345) % (1 << 31)
		return seed / 65536 % n
	}
	for _, n := range []int{1, 2, 5, 200} {
		m, _ := mem.New(n)
		plain := clone(m)
		guard := guards(n)
		for i := range 3000 {
			at, v, old := pick(len(plain.W)), pick(4), pick(4)
			if node := guard[at]; node > 0 && plain.G[node] == api.Free {
				at = at / 4 * 4
			}
			switch pick(4) {
			case 0:
				got := 0
				if m, got = mem.Load(m, at); got != plain.W[at] {
					t.Fatalf("%d: Load(%d) = %d; want %d", i, at, got, plain.W[at])
				}
			case 1:
				m = mem.Store(m, at, v)
				plain.W[at] = v
			case 2:
				is, want := false, plain.W[at] == old
				if m, is = mem.Cas(m, at, old, v); is != want {
					t.Fatalf("%d: Cas(%d, %d, %d): %t", i, at, old, v, is)
				}
				if want {
					plain.W[at] = v
				}
			case 3:
				node, to := 1+pick(n), pick(3)
				if may[[2]int{plain.G[node], to}] {
					m = mem.Turn(m, node, to)
					plain.G[node] = to
				}
			}
			if !same(m, plain) || !mem.Same(m, plain) || !mem.Right(m) {
				t.Fatalf("%d: another arena than the plain one", i)
			}
		}
	}
}

// TestNotWrittenInto: R3, no call writes into what is handed in, and what is written into an answer isn't seen there.
func TestNotWrittenInto(t *testing.T) {
	for _, m := range append(someArenas(), wrongArenas()...) {
		was := clone(m)
		check := func(what string, got api.Mem) {
			t.Helper()
			if !same(m, was) {
				t.Fatalf("%s: the arena that was handed in is another one", what)
			}
			for at := range got.W {
				got.W[at] += 3
			}
			for node := range got.G {
				got.G[node] += 3
			}
			if !same(m, was) {
				t.Fatalf("%s: the answer shares memory with the arena that was handed in", what)
			}
		}
		for _, at := range []int{0, 127, 128, 129, len(m.W) - 1, len(m.W), -1} {
			old := 0
			if at >= 0 && at < len(m.W) {
				old = m.W[at]
			}
			load, _ := mem.Load(m, at)
			check("Load", load)
			check("Store", mem.Store(m, at, 5))
			yes, _ := mem.Cas(m, at, old, 5)
			check("Cas", yes)
			no, _ := mem.Cas(m, at, old+1, 5)
			check("Cas that fails", no)
			mem.Node(m, at)
			check("Node", api.Mem{})
		}
		for _, node := range []int{-1, 0, 1, len(m.G) - 1, len(m.G)} {
			for _, to := range []int{api.Free, api.Live, api.Retired, 3} {
				check("Turn", mem.Turn(m, node, to))
			}
		}
		mem.Right(m)
		mem.Count(m, api.Free)
		mem.Same(m, lay(1, 0))
		mem.Same(lay(1, 0), m)
		check("Right, Count and Same", api.Mem{})
	}
}

// TestKept: R3 and R4, an answer stays what it is while others are made of it and of what it was made of; and a call that is done again answers the same.
func TestKept(t *testing.T) {
	m := lay(3, api.Live)
	a := mem.Store(m, 129, 5)
	was := clone(a)
	mem.Store(m, 129, 6)
	mem.Store(a, 129, 7)
	mem.Cas(a, 129, 5, 8)
	mem.Turn(a, 1, api.Retired)
	if !same(a, was) || !same(m, lay(3, api.Live)) {
		t.Errorf("an answer was changed by later calls: %v", a)
	}
	if again := mem.Store(m, 129, 5); !reflect.DeepEqual(again, a) {
		t.Errorf("Store once more: %v; want %v", again, a)
	}
}
