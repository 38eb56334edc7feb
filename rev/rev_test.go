package rev_test

import (
	"fmt"
	"math"
	"slices"
	"strconv"
	"testing"

	"hazel/rev"
)

const names = 65536

// rest is n modulo m, from 0 on, reckoned by division: the package itself shifts and masks.
func rest(n, m int) int {
	return (n%m + m) % m
}

// digits are the 16 lowest bits, written as a text.
func digits(n int) string { return fmt.Sprintf("%016b", rest(n, names)) }

// number is that of a text of bits.
func number(t *testing.T, bits string) int {
	t.Helper()
	n, err := strconv.ParseInt(bits, 2, 64)
	if err != nil {
		t.Fatal(err)
	}
	return int(n)
}

// turned is a number's 16 lowest bits in the other order, by their text.
func turned(t *testing.T, n int) int {
	t.Helper()
	b := []byte(digits(n))
	slices.Reverse(b)
	return number(t, string(b))
}

// orphan is a number's 16 lowest bits without the highest one that is set, by their text.
func orphan(t *testing.T, n int) int {
	t.Helper()
	b := []byte(digits(n))
	if at := slices.Index(b, '1'); at >= 0 {
		b[at] = '0'
	}
	return number(t, string(b))
}

// wide are numbers that are no name and no bucket, with all the edges.
func wide() []int {
	l := []int{names, names + 1, names + 2, names + 32769, 2*names - 1, 2 * names, 2*names + 1, 1<<32 + 5, math.MaxInt - 1, math.MaxInt}
	l = append(l, -1, -2, -3, -32768, -32769, -names+1, -names, -names-1, -2*names, math.MinInt+1, math.MinInt)
	for i := range 63 {
		l = append(l, -1<<i, -1<<i-1, -1<<i+1)
		if i >= 16 {
			l = append(l, 1<<i, 1<<i+1, 0x2545f4914f6cdd1d>>(63-i)|1<<i)
		}
	}
	return l
}

// all are all names, and such numbers as are none.
func all() []int {
	l := []int{}
	for n := range names {
		l = append(l, n)
	}
	return append(l, wide()...)
}

// TestRev: P10.1, of all numbers of 16 bits, and of others by their 16 lowest ones.
func TestRev(t *testing.T) {
	for _, n := range all() {
		if got, want := rev.Rev(n), turned(t, n); got != want {
			t.Errorf("Rev(%d) = %d; want %d", n, got, want)
		}
	}
}

// TestKeys: P10.1, the keys of all names and buckets, and of others those of their 16 lowest bits.
func TestKeys(t *testing.T) {
	for _, n := range all() {
		want := 2 * turned(t, n)
		if got := rev.Ord(n); got != want+1 {
			t.Errorf("Ord(%d) = %d; want %d", n, got, want+1)
		}
		if got := rev.Sent(n); got != want {
			t.Errorf("Sent(%d) = %d; want %d", n, got, want)
		}
	}
}

// TestKeysExamples: P10.1, numbers and keys that are written out.
func TestKeysExamples(t *testing.T) {
	for _, x := range []struct{ n, rev, ord, sent int }{
		{0, 0, 1, 0},
		{1, 32768, 65537, 65536},
		{2, 16384, 32769, 32768},
		{3, 49152, 98305, 98304},
		{5, 40960, 81921, 81920},
		{0x8000, 1, 3, 2},
		{0x1234, 0x2c48, 0x5891, 0x5890},
		{0x00ff, 0xff00, 0x1fe01, 0x1fe00},
		{32767, 65534, 131069, 131068},
		{65534, 32767, 65535, 65534},
		{65535, 65535, 131071, 131070},
		{65536, 0, 1, 0},
		{65537, 32768, 65537, 65536},
		{-1, 65535, 131071, 131070},
		{-2, 32767, 65535, 65534},
		{-65536, 0, 1, 0},
		{math.MaxInt, 65535, 131071, 131070},
		{math.MinInt, 0, 1, 0},
	} {
		if rev.Rev(x.n) != x.rev || rev.Ord(x.n) != x.ord || rev.Sent(x.n) != x.sent {
			t.Errorf("of %d: %d, %d, %d; want %d, %d, %d", x.n, rev.Rev(x.n), rev.Ord(x.n), rev.Sent(x.n), x.rev, x.ord, x.sent)
		}
	}
}

// TestName: P10.1, each key of a name tells that name, and no other number tells one: no even number, none below 0, none behind the last key.
func TestName(t *testing.T) {
	owner := map[int]int{}
	for n := range names {
		owner[2*turned(t, n)+1] = n
	}
	keys := wide()
	for key := -3 * names; key <= 5*names; key++ {
		keys = append(keys, key)
	}
	for _, key := range keys {
		want, has := owner[key]
		if got, is := rev.Name(key); got != want || is != has {
			t.Errorf("Name(%d) = %d, %t; want %d, %t", key, got, is, want, has)
		}
	}
}

// TestNameExamples: P10.1, keys that are written out.
func TestNameExamples(t *testing.T) {
	for _, x := range []struct {
		key, name int
		is        bool
	}{
		{1, 0, true},
		{3, 32768, true},
		{32769, 2, true},
		{65537, 1, true},
		{131069, 32767, true},
		{131071, 65535, true},
		{0, 0, false},
		{2, 0, false},
		{65536, 0, false},
		{131070, 0, false},
		{131072, 0, false},
		{131073, 0, false},
		{131075, 0, false},
		{1<<32 + 1, 0, false},
		{math.MaxInt, 0, false},
		{-1, 0, false},
		{-2, 0, false},
		{-3, 0, false},
		{-131071, 0, false},
		{math.MinInt, 0, false},
		{math.MinInt + 1, 0, false},
	} {
		if name, is := rev.Name(x.key); name != x.name || is != x.is {
			t.Errorf("Name(%d) = %d, %t; want %d, %t", x.key, name, is, x.name, x.is)
		}
	}
}

// TestParent: P10.2, of all buckets, and of others by their 16 lowest bits.
func TestParent(t *testing.T) {
	for _, b := range all() {
		if got, want := rev.Parent(b), orphan(t, b); got != want {
			t.Errorf("Parent(%d) = %d; want %d", b, got, want)
		}
	}
}

// TestParentExamples: P10.2, buckets that are written out.
func TestParentExamples(t *testing.T) {
	for _, x := range []struct{ bucket, want int }{
		{0, 0}, {1, 0}, {2, 0}, {3, 1}, {4, 0}, {5, 1}, {6, 2}, {7, 3},
		{8, 0}, {9, 1}, {10, 2}, {11, 3}, {12, 4}, {13, 5}, {14, 6}, {15, 7},
		{32767, 16383},
		{32768, 0},
		{32769, 1},
		{65535, 32767},
		{65536, 0},
		{65539, 1},
		{131071, 32767},
		{-1, 32767},
		{-32768, 0},
		{-65536, 0},
		{math.MaxInt, 32767},
		{math.MinInt, 0},
		{math.MinInt + 3, 1},
	} {
		if got := rev.Parent(x.bucket); got != x.want {
			t.Errorf("Parent(%d) = %d; want %d", x.bucket, got, x.want)
		}
	}
}

// TestBucket: P10.2, of all names, and of others by their 16 lowest bits, at each size that may be.
func TestBucket(t *testing.T) {
	for _, n := range all() {
		for size := 1; size <= 16; size++ {
			if got, want := rev.Bucket(n, size), rest(n, names)%size; got != want {
				t.Errorf("Bucket(%d, %d) = %d; want %d", n, size, got, want)
			}
		}
	}
}

// TestBucketExamples: P10.2, names and sizes that are written out.
func TestBucketExamples(t *testing.T) {
	for _, x := range []struct{ name, size, want int }{
		{7, 1, 0},
		{7, 2, 1},
		{7, 3, 1},
		{7, 4, 3},
		{7, 15, 7},
		{7, 16, 7},
		{23, 16, 7},
		{65535, 16, 15},
		{65535, 7, 1},
		{65536, 7, 0},
		{65537, 7, 1},
		{-1, 16, 15},
		{-1, 7, 1},
		{-65536, 7, 0},
		{math.MaxInt, 7, 1},
		{math.MinInt, 7, 0},
	} {
		if got := rev.Bucket(x.name, x.size); got != x.want {
			t.Errorf("Bucket(%d, %d) = %d; want %d", x.name, x.size, got, x.want)
		}
	}
}

// TestBucketWrong: P10.2, a size that may not be, down to 0 and from 17 on.
func TestBucketWrong(t *testing.T) {
	sizes := append(wide(), 0, -1, -2, -16, 17, 18, 19, 31, 32, 33, 64, 128, 65535)
	for _, size := range sizes {
		for _, n := range append(wide(), 1, 2, 3, 7, 15, 16, 17, 31, 32767, 32768, 65534, 65535) {
			if got := rev.Bucket(n, size); got != 0 {
				t.Errorf("Bucket(%d, %d) = %d; want 0", n, size, got)
			}
		}
	}
}

// TestTwice: P10.3, Rev of Rev is the number, so no two have one.
func TestTwice(t *testing.T) {
	for n := range names {
		if got := rev.Rev(rev.Rev(n)); got != n {
			t.Errorf("Rev of Rev of %d: %d", n, got)
		}
	}
	for _, n := range wide() {
		if got, want := rev.Rev(rev.Rev(n)), rest(n, names); got != want {
			t.Errorf("Rev of Rev of %d: %d; want %d", n, got, want)
		}
	}
}

// TestOdd: P10.3, names' keys are odd, buckets' even, and none stands for two.
func TestOdd(t *testing.T) {
	seen := map[int]bool{}
	for n := range names {
		ord, sent := rev.Ord(n), rev.Sent(n)
		if ord%2 != 1 || sent%2 != 0 || ord < 0 || ord > 2*names-1 || sent < 0 || sent > 2*names-1 {
			t.Errorf("keys of %d: %d, %d", n, ord, sent)
		}
		if seen[ord] || seen[sent] {
			t.Errorf("keys of %d: %d, %d; one came already", n, ord, sent)
		}
		seen[ord], seen[sent] = true, true
		if name, is := rev.Name(ord); name != n || !is {
			t.Errorf("Name(Ord(%d)) = %d, %t", n, name, is)
		}
		if name, is := rev.Name(sent); name != 0 || is {
			t.Errorf("Name(Sent(%d)) = %d, %t", n, name, is)
		}
	}
}

// bucketBy is the bucket in whose part of a list by keys a name stands: the one with the greatest key that isn't behind the name's.
func bucketBy(name, size int) int {
	at, best := -1, -1
	for b := range size {
		if k := rev.Sent(b); k <= rev.Ord(name) && k > best {
			at, best = b, k
		}
	}
	return at
}

// TestStretches: P10.3, at each power of 2 the names of a bucket are those between its key and the next one of a bucket of that size.
func TestStretches(t *testing.T) {
	for _, size := range []int{1, 2, 4, 8, 16} {
		for n := range names {
			if got, want := rev.Bucket(n, size), bucketBy(n, size); got != want {
				t.Errorf("Bucket(%d, %d) = %d, but its key stands behind that of %d", n, size, got, want)
			}
		}
	}
}

// TestAllStretches: P10.3, at the powers of 2 to which Bucket doesn't go: behind a bucket's key, ahead of the next bucket's, stand just the names whose rest by the size it is.
func TestAllStretches(t *testing.T) {
	for size := 32; size <= names; size *= 2 {
		at := map[int]int{}
		for b := range size {
			at[rev.Sent(b)] = b
		}
		bucket := -1
		for key := range 2 * names {
			if b, is := at[key]; is {
				bucket = b
			}
			if name, is := rev.Name(key); is && name%size != bucket {
				t.Fatalf("name %d of size %d stands behind the key of bucket %d", name, size, bucket)
			}
		}
	}
}

// TestParted: P10.3, when the size doubles a name stays in its bucket, or goes to one whose parent that is; and each bucket that is new has such names, and its key in the stretch of its parent. (The name of a bucket's number has the next key behind the bucket's, so the two stand in one stretch.)
func TestParted(t *testing.T) {
	for _, size := range []int{1, 2, 4, 8} {
		moved := map[int]int{}
		for n := range names {
			was, now := rev.Bucket(n, size), rev.Bucket(n, 2*size)
			if now != was && (now < size || rev.Parent(now) != was) {
				t.Errorf("name %d: bucket %d of %d, %d of %d", n, was, size, now, 2*size)
			}
			moved[now]++
		}
		for b := range 2 * size {
			if moved[b] != names/(2*size) {
				t.Errorf("bucket %d of %d has %d names", b, 2*size, moved[b])
			}
			if b >= size && bucketBy(b, size) != rev.Parent(b) {
				t.Errorf("the key of bucket %d doesn't stand in the stretch of %d", b, rev.Parent(b))
			}
		}
	}
}
