package hist_test

import (
	"math/big"
	"math/rand"
	"slices"
	"strconv"
	"testing"

	"belfry/hist"
)

// plainBucket tells how many digits v has when it is written by twos.
func plainBucket(v int64) int {
	if v < 1 {
		return 0
	}
	return len(strconv.FormatInt(v, 2))
}

// plainQuantile tells the bucket of the one of the sorted values that is the first up to which q of 100 lie; -1 of none.
func plainQuantile(values []int64, q int) int {
	if len(values) == 0 || q < 0 || q > 100 {
		return -1
	}
	sorted := slices.Sorted(slices.Values(values))
	rank := max(1, (q*len(values)+99)/100)
	return plainBucket(sorted[rank-1])
}

// bigQuantile tells the same of counts, in numbers of the library's that no sum is too great for; -1 of none.
func bigQuantile(h hist.Hist, q int64) int {
	all := new(big.Int)
	for _, n := range h {
		all.Add(all, big.NewInt(n))
	}
	need := new(big.Int).Mul(all, big.NewInt(q))
	upTo := new(big.Int)
	for i, n := range h {
		upTo.Add(upTo, big.NewInt(n))
		if upTo.Sign() > 0 && new(big.Int).Mul(upTo, big.NewInt(100)).Cmp(need) >= 0 {
			return i
		}
	}
	return -1
}

// holds sees to it that the values make the same Hist put one by one and merged from two parts cut anywhere, and that all parts of 100 are told of it.
func holds(t *testing.T, values []int64) {
	t.Helper()
	var want hist.Hist
	for _, v := range values {
		want[plainBucket(v)]++
	}
	h := of(values...)
	if h != want || h.Count() != int64(len(values)) {
		t.Fatalf("%v: %v, %d; want %v", values, h, h.Count(), want)
	}
	for i := range len(values) + 1 {
		merges(t, of(values[:i]...), of(values[i:]...), want)
	}
	for q := -2; q <= 102; q++ {
		tells(t, h, q, plainQuantile(values, q))
	}
}

// TestAllShortLists goes through all lists of up to four of eight values.
func TestAllShortLists(t *testing.T) {
	few := []int64{lowest, 0, 1, 2, 3, 4, 1 << 62, highest}
	var l []int64
	var from func(left int)
	from = func(left int) {
		holds(t, l)
		if left == 0 {
			return
		}
		for _, v := range few {
			l = append(l, v)
			from(left - 1)
			l = l[:len(l)-1]
		}
	}
	from(4)
}

// TestLongLists goes on with lists of up to 300 values of all sizes, so that parts of 100 fall on, ahead of and behind the buckets' ends.
func TestLongLists(t *testing.T) {
	r := rand.New(rand.NewSource(1301))
	for range 200 {
		width := 1 + r.Intn(63)
		var l []int64
		for range r.Intn(301) {
			v := r.Int63() >> r.Intn(width)
			if r.Intn(9) == 0 {
				v = -v
			}
			l = append(l, v)
		}
		holds(t, l)
	}
}

func TestSmallValues(t *testing.T) {
	for v := int64(-70000); v <= 70000; v++ {
		if got, want := hist.Bucket(v), plainBucket(v); got != want {
			t.Fatalf("%d: %d; want %d", v, got, want)
		}
	}
}

// TestBucketsAndBounds: each value is not above its bucket's bound, and above that of the bucket below.
func TestBucketsAndBounds(t *testing.T) {
	r := rand.New(rand.NewSource(1302))
	for range 100000 {
		v := max(1, r.Int63()>>r.Intn(63))
		i := hist.Bucket(v)
		if v > hist.Bound(i) || v <= hist.Bound(i-1) {
			t.Fatalf("%d: bucket %d, of %d to %d", v, i, hist.Bound(i-1), hist.Bound(i))
		}
	}
}

// TestGreatCounts: counts of all sizes up to 2^50, in any of the 65 buckets.
func TestGreatCounts(t *testing.T) {
	r := rand.New(rand.NewSource(1303))
	for range 3000 {
		var h hist.Hist
		for range r.Intn(66) {
			h[r.Intn(65)] = (r.Int63n(full) + 1) >> r.Intn(51)
		}
		var want int64
		for _, n := range h {
			want += n
		}
		if h.Count() != want {
			t.Fatalf("%v: %d; want %d", h, h.Count(), want)
		}
		for q := range 101 {
			tells(t, h, q, bigQuantile(h, int64(q)))
		}
	}
}
