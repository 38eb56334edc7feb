package pack_test

import (
	"math"
	"testing"

	"hazel/api"
	"hazel/pack"
)

const (
	tags    = 1 << 40
	indices = 1 << 20
	words   = 1 << 61
)

// rest is n modulo m, from 0 on, reckoned by division: the package itself shifts and masks.
func rest(n, m int) int {
	return (n%m + m) % m
}

// someWords are packed ones and others, with all the edges.
func someWords() []int {
	l := []int{0, 1, 2, 3, 1<<21 - 1, 1 << 21, 1<<21 + 1, 2097159, 1 << 22, 123456789012345678, words - 1<<21 - 1, words - 1<<21, words - 2, words - 1}
	l = append(l, words, words+1, words+2097159, 2*words-1, 2*words, 3*words+5, math.MaxInt-1, math.MaxInt)
	l = append(l, -1, -2, -3, -1<<21+1, -1<<21, -1<<21-1, -2097159, -words+1, -words, -words-1, -2*words, math.MinInt+1, math.MinInt)
	for i := range 63 {
		l = append(l, 1<<i, 1<<i-1, -1<<i, -1<<i-1, 0x2545f4914f6cdd1d>>i)
	}
	return l
}

func someTags() []int {
	return []int{0, 1, 2, 12345678901, 1 << 20, 1<<39 - 1, 1 << 39, tags - 2, tags - 1}
}

func someIndices() []int {
	return []int{0, 1, 2, 3, 200, 77777, 1 << 19, indices - 2, indices - 1}
}

// TestOf: P1.1, parts that are right, with their edges.
func TestOf(t *testing.T) {
	for _, tag := range someTags() {
		for _, index := range someIndices() {
			for mark := range 2 {
				w, e := pack.Of(tag, index, mark)
				if want := tag*(1<<21) + index*2 + mark; w != want || e != api.OK {
					t.Errorf("Of(%d, %d, %d) = %d, %d; want %d, OK", tag, index, mark, w, e, want)
				}
			}
		}
	}
}

// TestOfExamples: P1.1, words that are written out.
func TestOfExamples(t *testing.T) {
	for _, x := range []struct{ tag, index, mark, w int }{
		{0, 0, 0, 0},
		{0, 0, 1, 1},
		{0, 1, 0, 2},
		{0, indices - 1, 0, 2097150},
		{1, 0, 0, 2097152},
		{1, 3, 1, 2097159},
		{tags - 1, 0, 0, 2305843009211596800},
		{tags - 1, indices - 1, 1, 2305843009213693951},
	} {
		if w, e := pack.Of(x.tag, x.index, x.mark); w != x.w || e != api.OK {
			t.Errorf("Of(%d, %d, %d) = %d, %d; want %d, OK", x.tag, x.index, x.mark, w, e, x.w)
		}
	}
}

// TestOfWrong: P1.1, a part that is below 0 or too great, beside ones that are right at both ends.
func TestOfWrong(t *testing.T) {
	far := []int{-1, -2, math.MinInt, math.MaxInt, words, -words}
	refused := func(tag, index, mark int) {
		t.Helper()
		if w, e := pack.Of(tag, index, mark); w != 0 || e != api.ErrArg {
			t.Errorf("Of(%d, %d, %d) = %d, %d; want 0, ErrArg", tag, index, mark, w, e)
		}
	}
	for _, n := range append(far, tags, tags+1, 2*tags) {
		refused(n, 0, 0)
		refused(n, indices-1, 1)
	}
	for _, n := range append(far, indices, indices+1, 2*indices, tags) {
		refused(0, n, 0)
		refused(tags-1, n, 1)
	}
	for _, n := range append(far, 2, 3, indices, tags) {
		refused(0, 0, n)
		refused(tags-1, indices-1, n)
	}
	refused(-1, -1, -1)
	refused(tags, indices, 2)
}

// TestRight: P1.1, from 0 to 2^61 - 1 and no further.
func TestRight(t *testing.T) {
	for _, w := range someWords() {
		if got, want := pack.Right(w), w >= 0 && w <= words-1; got != want {
			t.Errorf("Right(%d) = %t", w, got)
		}
	}
}

// TestParts: P1.1, the parts of packed words, and of others those of the word modulo 2^61.
func TestParts(t *testing.T) {
	for _, w := range someWords() {
		r := rest(w, words)
		tag, index, mark := r/(1<<21), r/2%indices, r%2
		if pack.Tag(w) != tag || pack.Index(w) != index || pack.Mark(w) != mark {
			t.Errorf("parts of %d: %d, %d, %d; want %d, %d, %d", w, pack.Tag(w), pack.Index(w), pack.Mark(w), tag, index, mark)
		}
	}
}

// TestPartsExamples: P1.1, parts that are written out.
func TestPartsExamples(t *testing.T) {
	for _, x := range []struct{ w, tag, index, mark int }{
		{0, 0, 0, 0},
		{2097159, 1, 3, 1},
		{words - 1, tags - 1, indices - 1, 1},
		{words, 0, 0, 0},
		{words + 2097159, 1, 3, 1},
		{math.MaxInt, tags - 1, indices - 1, 1},
		{-1, tags - 1, indices - 1, 1},
		{-2, tags - 1, indices - 1, 0},
		{-1 << 21, tags - 1, 0, 0},
		{-words, 0, 0, 0},
		{math.MinInt, 0, 0, 0},
	} {
		if pack.Tag(x.w) != x.tag || pack.Index(x.w) != x.index || pack.Mark(x.w) != x.mark {
			t.Errorf("parts of %d: %d, %d, %d; want %d, %d, %d", x.w, pack.Tag(x.w), pack.Index(x.w), pack.Mark(x.w), x.tag, x.index, x.mark)
		}
	}
}

// TestNext: P1.2, of words of all kinds, with indices and marks that are right and such that aren't.
func TestNext(t *testing.T) {
	wide := []int{indices, indices + 1, 2*indices - 1, tags + 5, math.MaxInt, -1, -2, -indices, -indices - 1, math.MinInt, math.MinInt + 3}
	for _, w := range someWords() {
		tag := rest(rest(w, words)/(1<<21)+1, tags)
		for _, index := range append(someIndices(), wide...) {
			for _, mark := range []int{0, 1, 2, 3, 7, math.MaxInt, -1, -2, -3, math.MinInt} {
				want := tag*(1<<21) + rest(index, indices)*2 + rest(mark, 2)
				if got := pack.Next(w, index, mark); got != want {
					t.Fatalf("Next(%d, %d, %d) = %d; want %d", w, index, mark, got, want)
				}
			}
		}
	}
}

// TestNextExamples: P1.2, words that are written out; the tag goes round to 0 behind the last one.
func TestNextExamples(t *testing.T) {
	for _, x := range []struct{ w, index, mark, want int }{
		{0, 0, 0, 2097152},
		{0, 5, 1, 2097163},
		{2097159, 0, 0, 4194304},
		{(tags - 2) << 21, 0, 0, (tags - 1) << 21},
		{(tags - 1) << 21, 0, 0, 0},
		{words - 1, 2, 0, 4},
		{words - 1, indices - 1, 1, 2097151},
		{0, indices, 2, 2097152},
		{0, indices, 3, 2097153},
		{0, -1, -1, 4194303},
		{-1, 0, 0, 0},
		{words, 1, 1, 2097155},
	} {
		if got := pack.Next(x.w, x.index, x.mark); got != x.want {
			t.Errorf("Next(%d, %d, %d) = %d; want %d", x.w, x.index, x.mark, got, x.want)
		}
	}
}

// TestMadeOfParts: P1.3, a packed word is made of its parts again.
func TestMadeOfParts(t *testing.T) {
	for _, w := range someWords() {
		got, e := pack.Of(pack.Tag(w), pack.Index(w), pack.Mark(w))
		if e != api.OK || got != rest(w, words) {
			t.Errorf("made of the parts of %d: %d, %d", w, got, e)
		}
		if (got == w) != pack.Right(w) {
			t.Errorf("made of the parts of %d: %d, but Right is %t", w, got, pack.Right(w))
		}
	}
}

// TestSameJustIfParts: P1.3, no two triples of parts make one word, and each word gives its triple back.
func TestSameJustIfParts(t *testing.T) {
	seen := map[int][3]int{}
	for _, tag := range someTags() {
		for _, index := range someIndices() {
			for mark := range 2 {
				parts := [3]int{tag, index, mark}
				w, e := pack.Of(tag, index, mark)
				if had, ok := seen[w]; ok || e != api.OK {
					t.Errorf("%v and %v: both %d, %d", parts, had, w, e)
				}
				seen[w] = parts
				if got := [3]int{pack.Tag(w), pack.Index(w), pack.Mark(w)}; got != parts {
					t.Errorf("parts of %d: %v; want %v", w, got, parts)
				}
			}
		}
	}
}

// TestNextIsAnother: P1.3, also where the index and the mark stay as they were; and it is packed, whatever it was of.
func TestNextIsAnother(t *testing.T) {
	for _, w := range someWords() {
		for _, index := range []int{pack.Index(w), 0, 1, indices - 1, indices, -1} {
			for _, mark := range []int{pack.Mark(w), 0, 1, 2, -1} {
				n := pack.Next(w, index, mark)
				if n == w || pack.Tag(n) == pack.Tag(w) || !pack.Right(n) {
					t.Errorf("Next(%d, %d, %d) = %d", w, index, mark, n)
				}
			}
		}
	}
}
