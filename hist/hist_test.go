package hist_test

import (
	"math"
	"testing"

	"belfry/hist"
)

// The tests here and in plain_test.go are of P1301, with P1 to P4, P7 and P8 as far as they bear on it.

const (
	highest = math.MaxInt64
	lowest  = math.MinInt64
	full    = 1 << 50 // what a bucket may hold
)

// bounds: the greatest of each bucket, written out.
var bounds = [65]int64{
	0, 1, 3, 7, 15, 31, 63, 127, 255, 511, 1023, 2047, 4095, 8191, 16383, 32767, 65535,
	131071, 262143, 524287, 1048575, 2097151, 4194303, 8388607, 16777215, 33554431, 67108863,
	134217727, 268435455, 536870911, 1073741823, 2147483647, 4294967295, 8589934591,
	17179869183, 34359738367, 68719476735, 137438953471, 274877906943, 549755813887,
	1099511627775, 2199023255551, 4398046511103, 8796093022207, 17592186044415,
	35184372088831, 70368744177663, 140737488355327, 281474976710655, 562949953421311,
	1125899906842623, 2251799813685247, 4503599627370495, 9007199254740991,
	18014398509481983, 36028797018963967, 72057594037927935, 144115188075855871,
	288230376151711743, 576460752303423487, 1152921504606846975, 2305843009213693951,
	4611686018427387903, 9223372036854775807, 9223372036854775807,
}

// of tells a Hist of these values.
func of(values ...int64) hist.Hist {
	var h hist.Hist
	for _, v := range values {
		h.Put(v)
	}
	return h
}

// has tells a Hist of that many in these buckets.
func has(counts map[int]int64) hist.Hist {
	var h hist.Hist
	for i, n := range counts {
		h[i] = n
	}
	return h
}

// all tells a Hist of n in each bucket.
func all(n int64) hist.Hist {
	var h hist.Hist
	for i := range h {
		h[i] = n
	}
	return h
}

func TestBucket(t *testing.T) {
	for _, v := range []int64{0, -1, -2, -3, -255, -1 << 32, -1 << 62, lowest + 1, lowest} {
		if got := hist.Bucket(v); got != 0 {
			t.Errorf("%d: %d; want 0", v, got)
		}
	}
	for i := 1; i <= 63; i++ {
		least, most := bounds[i-1]+1, bounds[i]
		for _, v := range []int64{least, least + (most-least)/2, most} {
			if got := hist.Bucket(v); got != i {
				t.Errorf("%d: %d; want %d", v, got, i)
			}
		}
	}
}

func TestBound(t *testing.T) {
	for i, want := range bounds {
		if got := hist.Bound(i); got != want {
			t.Errorf("%d: %d; want %d", i, got, want)
		}
	}
	for _, i := range []int{65, 66, 99, 127, 128, 1 << 20, 1<<32 + 5, math.MaxInt} {
		if got := hist.Bound(i); got != highest {
			t.Errorf("%d: %d; want the greatest", i, got)
		}
	}
	for _, i := range []int{-1, -2, -5, -62, -63, -64, -65, -1<<32 + 5, math.MinInt + 5, math.MinInt} {
		if got := hist.Bound(i); got != 0 {
			t.Errorf("%d: %d; want 0", i, got)
		}
	}
}

// TestPut: its bucket has one more, whatever was there, and no other one has.
func TestPut(t *testing.T) {
	for _, ahead := range []hist.Hist{{}, all(7), of(1, 2, 3), has(map[int]int64{0: full - 1, 63: full - 1, 64: 3})} {
		for i := range 64 {
			for _, v := range []int64{bounds[i], bounds[max(i, 1)-1] + min(int64(i), 1)} {
				h, want := ahead, ahead
				h.Put(v)
				want[i]++
				if h != want {
					t.Errorf("%v and %d: %v", ahead, v, h)
				}
			}
		}
		h, want := ahead, ahead
		h.Put(lowest)
		h.Put(-1)
		want[0] += 2
		if h != want {
			t.Errorf("%v and two below 0: %v", ahead, h)
		}
	}
}

func TestPutOfSeveral(t *testing.T) {
	want := has(map[int]int64{0: 2, 1: 1, 2: 2, 7: 1, 63: 2})
	if h := of(1, 2, 3, 100, -5, 0, highest, 1<<62); h != want {
		t.Errorf("%v; want %v", h, want)
	}
	if h := of(highest, 0, 3, 1<<62, 1, -5, 100, 2); h != want {
		t.Errorf("in another order: %v; want %v", h, want)
	}
}

// merges sees to it that Merge tells want of a and b, both ways round and each time, and leaves them as they were.
func merges(t *testing.T, a, b, want hist.Hist) {
	t.Helper()
	wasA, wasB := a, b
	for range 2 {
		if got := a.Merge(b); got != want {
			t.Errorf("%v and %v: %v; want %v", a, b, got, want)
		}
		if got := b.Merge(a); got != want {
			t.Errorf("%v and %v: %v; want %v", b, a, got, want)
		}
	}
	if a != wasA || b != wasB {
		t.Errorf("%v and %v: Merge changed them", wasA, wasB)
	}
}

func TestMerge(t *testing.T) {
	merges(t, of(), of(), of())
	merges(t, of(1, 2, 3), of(3, 100, -5), of(1, 2, 3, 3, 100, -5))
	merges(t, all(2), all(5), all(7))
	merges(t, all(full/2), all(full/2), all(full))
	rising := all(0)
	for i := range rising {
		rising[i] = int64(3 * i)
		merges(t, has(map[int]int64{i: 4}), of(), has(map[int]int64{i: 4}))
		merges(t, has(map[int]int64{i: 4}), has(map[int]int64{i: 9}), has(map[int]int64{i: 13}))
		merges(t, has(map[int]int64{i: 4}), has(map[int]int64{64 - i: 1}), has(map[int]int64{i: 4}).Merge(has(map[int]int64{64 - i: 1})))
	}
	want := rising
	for i := range want {
		want[i] = int64(3*i + 6)
	}
	merges(t, rising, all(6), want)
}

// TestMergeIsNew: what is put in a merged one is not seen in what it was made of, nor the other way round.
func TestMergeIsNew(t *testing.T) {
	a, b := of(1, 2), of(3)
	m := a.Merge(b)
	m.Put(5)
	if a != of(1, 2) || b != of(3) {
		t.Errorf("%v, %v", a, b)
	}
	a.Put(7)
	b.Put(9)
	if m != of(1, 2, 3, 5) {
		t.Errorf("%v", m)
	}
}

func TestCount(t *testing.T) {
	for i, c := range []struct {
		h    hist.Hist
		want int64
	}{
		{of(), 0}, {of(0), 1}, {of(-5), 1}, {of(1, 1, 1), 3}, {of(-1, 0, 1, 2, highest, lowest), 6},
		{all(1), 65}, {all(full), 65 * full}, {has(map[int]int64{0: 3, 64: 4}), 7}, {has(map[int]int64{64: full}), full},
	} {
		for range 2 {
			if got := c.h.Count(); got != c.want {
				t.Errorf("%d: %d; want %d", i, got, c.want)
			}
		}
	}
	for i := range 65 {
		if got := has(map[int]int64{i: 9}).Count(); got != 9 {
			t.Errorf("9 in %d: %d", i, got)
		}
	}
}

// tells sees to it that Quantile tells the bound of bucket i, each time; of an i below 0 that there is none.
func tells(t *testing.T, h hist.Hist, q, i int) {
	t.Helper()
	var want int64
	if i >= 0 {
		want = bounds[i]
	}
	was := h
	for range 2 {
		if got, ok := h.Quantile(q); got != want || ok != (i >= 0) {
			t.Errorf("%d of 100 of %v: %d, %v; want bucket %d", q, h, got, ok, i)
		}
	}
	if h != was {
		t.Errorf("%v: Quantile changed it", was)
	}
}

// noParts: what is no part of 100.
var noParts = []int{-1, -2, -50, -100, -101, 101, 102, 150, 200, 1000, 1<<32 + 50, -1<<32 + 50, math.MaxInt, math.MinInt, math.MinInt + 50}

func TestQuantileOfNone(t *testing.T) {
	for q := range 101 {
		tells(t, of(), q, -1)
	}
	for _, q := range noParts {
		tells(t, of(), q, -1)
		tells(t, of(3), q, -1)
		tells(t, of(-3, 9, 9, highest), q, -1)
		tells(t, all(full), q, -1)
	}
}

// TestQuantileOfOneBucket: all lie in it, so each part of them does.
func TestQuantileOfOneBucket(t *testing.T) {
	for i := range 65 {
		for _, n := range []int64{1, 2, 3, 99, 100, 101, 1 << 40, full - 1, full} {
			for q := range 101 {
				tells(t, has(map[int]int64{i: n}), q, i)
			}
		}
	}
}

func TestQuantile(t *testing.T) {
	ten := of(1, 1, 1, 1, 1, 5, 5, 5, 5, 100)
	for _, c := range []struct {
		h    hist.Hist
		q, i int
	}{
		{ten, 0, 1}, {ten, 1, 1}, {ten, 49, 1}, {ten, 50, 1}, {ten, 51, 3}, {ten, 89, 3}, {ten, 90, 3}, {ten, 91, 7}, {ten, 100, 7},
		{of(-3, 9), 0, 0}, {of(-3, 9), 50, 0}, {of(-3, 9), 51, 4}, {of(-3, 9), 100, 4}, // what is below 1 counts as well
		{of(1, 2, 4), 33, 1}, {of(1, 2, 4), 34, 2}, {of(1, 2, 4), 66, 2}, {of(1, 2, 4), 67, 3}, // a third is neither 33 nor 34 of 100
		{of(highest, 1<<62), 0, 63}, {of(highest, 0), 50, 0}, {of(highest, 0), 51, 63},
		{has(map[int]int64{5: 1, 64: 1}), 50, 5}, {has(map[int]int64{5: 1, 64: 1}), 51, 64},
	} {
		tells(t, c.h, c.q, c.i)
	}
}

// TestQuantileOfNoughtIsTheFirst: at 0 one at least lies there, be it one of many, and at 1 one of more than 100 is too few.
func TestQuantileOfNoughtIsTheFirst(t *testing.T) {
	for i := range 64 {
		for _, n := range []int64{1, 98, 99, 100, 101, full} {
			h := has(map[int]int64{i: 1, i + 1: n})
			tells(t, h, 0, i)
			if n < 100 {
				tells(t, h, 1, i)
			} else {
				tells(t, h, 1, i+1)
			}
			tells(t, h, 100, i+1)
		}
	}
}

// TestQuantileOfHundred: of 50 buckets each has two parts of 100.
func TestQuantileOfHundred(t *testing.T) {
	for _, n := range []int64{1, 2, 7, full / 2} {
		var h hist.Hist
		for i := range 50 {
			h[i] = 2 * n
		}
		tells(t, h, 0, 0)
		for q := 1; q <= 100; q++ {
			tells(t, h, q, (q-1)/2)
		}
	}
}

// TestQuantileOfGreatCounts: one less of 2^50 is told, which no float of the parts would.
func TestQuantileOfGreatCounts(t *testing.T) {
	for i := range 63 {
		k := i + 1
		tells(t, has(map[int]int64{i: full, k: full}), 50, i)
		tells(t, has(map[int]int64{i: full - 1, k: full}), 50, k)
		tells(t, has(map[int]int64{i: full, k: full - 1}), 50, i)
		tells(t, has(map[int]int64{i: full, k: full}), 51, k)
		tells(t, has(map[int]int64{i: 99 << 43, k: 1 << 43}), 99, i)
		tells(t, has(map[int]int64{i: 99<<43 - 1, k: 1<<43 + 1}), 99, k)
		tells(t, has(map[int]int64{i: 99<<43 - 1, k: 1 << 43}), 99, k)
	}
	for q := 1; q <= 100; q++ {
		tells(t, all(full), q, (65*q+99)/100-1)
	}
	tells(t, all(full), 0, 0)
}

// TestWhatMayNotBe: of counts below 0 and above 2^50 only that each call ends and panics never.
func TestWhatMayNotBe(t *testing.T) {
	ends := []int64{lowest, lowest / 100, -full, -1, 0, 1, full, full + 1, highest / 100, highest}
	for _, a := range ends {
		for _, b := range ends {
			h := all(a)
			h[0], h[33], h[64] = b, -b, b
			for q := -1; q <= 101; q++ {
				if got, ok := h.Quantile(q); !ok && got != 0 {
					t.Errorf("%d, %d: %d beside a false", a, b, got)
				}
			}
			g := h
			g.Put(lowest)
			g.Put(highest)
			if h.Merge(g) != g.Merge(h) || h.Count() != h.Count() {
				t.Errorf("%d, %d: now so, now so", a, b)
			}
		}
	}
}
