package pane_test

import (
	"fmt"
	"math"
	"slices"
	"testing"

	"belfry/api"
	"belfry/label"
	"belfry/line"
	"belfry/pane"
	"belfry/wide"
)

// The tests here and in plain_test.go are of P1201, with P1 to P4, P8 and P9 as far as they bear on it.

const (
	most    = 1 << 42
	mostSeq = 1 << 53
	highest = math.MaxInt64
	lowest  = math.MinInt64
)

// sample tells one of these numbers; what it comes to does not hang on its labels.
func sample(value, time int64, src int, seq int64) line.Sample {
	return line.Sample{Labels: label.Set{{Name: "a", Value: "x"}}, Value: value, Time: time, Src: src, Seq: seq}
}

// of tells samples of these values, one behind the other.
func of(values ...int64) []line.Sample {
	var l []line.Sample
	for i, v := range values {
		l = append(l, sample(v, int64(10*i), 1, int64(i+1)))
	}
	return l
}

// number tells what a well written text says.
func number(s string) wide.Int {
	n, e := wide.Parse(s)
	if e != api.OK {
		panic(s)
	}
	return n
}

// makes sees to it that Of tells want of l, each time, and leaves l and the spare room behind it as they were.
func makes(t *testing.T, l []line.Sample, want pane.Pane) {
	t.Helper()
	spare := sample(99, most, 16, mostSeq)
	room := append(slices.Clone(l), spare, spare)
	was := fmt.Sprint(room)
	for range 2 {
		if got := pane.Of(room[:len(l)]...); got != want {
			t.Errorf("%.300v: %+v; want %+v", l, got, want)
		}
	}
	if fmt.Sprint(room) != was {
		t.Errorf("%.300v: Of changed what was handed in", l)
	}
}

// merges sees to it that Merge tells want of a and b, each time.
func merges(t *testing.T, a, b, want pane.Pane) {
	t.Helper()
	for range 2 {
		if got := pane.Merge(a, b); got != want {
			t.Errorf("%+v and %+v: %+v; want %+v", a, b, got, want)
		}
	}
}

func TestOfNone(t *testing.T) {
	if got := pane.Of(); got != (pane.Pane{}) {
		t.Errorf("none: %+v", got)
	}
	makes(t, nil, pane.Pane{})
	makes(t, []line.Sample{}, pane.Pane{})
}

// TestOfOne: one sample is the least, the greatest and the last, whatever it is.
func TestOfOne(t *testing.T) {
	for _, value := range []int64{0, 1, -1, 5, -7, 1 << 32, highest, highest - 1, lowest, lowest + 1} {
		for _, time := range []int64{0, 1, 1500, most - 1, most} {
			for _, src := range []int{1, 2, 15, 16} {
				for _, seq := range []int64{1, 2, 1 << 32, mostSeq} {
					want := pane.Pane{Count: 1, Sum: wide.Of(value), Min: value, Max: value, Time: time, Src: src, Seq: seq, Last: value}
					makes(t, []line.Sample{sample(value, time, src, seq)}, want)
				}
			}
		}
	}
}

func TestOfSeveral(t *testing.T) {
	for _, x := range []struct {
		values     []int64
		sum        string
		least, top int64
	}{
		{[]int64{5, -7, 9}, "7", -7, 9},
		{[]int64{3, 3, 3}, "9", 3, 3},
		{[]int64{0, 0}, "0", 0, 0},
		{[]int64{1, 2, 3, 4}, "10", 1, 4},
		{[]int64{4, 3, 2, 1}, "10", 1, 4},
		{[]int64{-1, -2, -3}, "-6", -3, -1}, // the greatest is below 0, the 0 of none is not among them
		{[]int64{-3, -2, -1}, "-6", -3, -1},
		{[]int64{7, 8, 9}, "24", 7, 9},
		{[]int64{highest, 1}, "9223372036854775808", 1, highest},
		{[]int64{highest, highest}, "18446744073709551614", highest, highest},
		{[]int64{highest, highest, highest}, "27670116110564327421", highest, highest},
		{[]int64{lowest, -1}, "-9223372036854775809", lowest, -1},
		{[]int64{lowest, lowest}, "-18446744073709551616", lowest, lowest},
		{[]int64{lowest, lowest, lowest, lowest, lowest}, "-46116860184273879040", lowest, lowest},
		{[]int64{lowest, highest}, "-1", lowest, highest},
		{[]int64{highest, 0, lowest, highest}, "9223372036854775806", lowest, highest},
	} {
		n := int64(len(x.values))
		want := pane.Pane{Count: n, Sum: number(x.sum), Min: x.least, Max: x.top, Time: 10 * (n - 1), Src: 1, Seq: n, Last: x.values[n-1]}
		makes(t, of(x.values...), want)
	}
}

// TestOfMany holds sums that 64 bits do not hold by far.
func TestOfMany(t *testing.T) {
	const n = 200000
	for _, x := range []struct {
		value int64
		sum   string
	}{{highest, "1844674407370955161400000"}, {lowest, "-1844674407370955161600000"}, {-1, "-200000"}} {
		l := slices.Repeat([]line.Sample{sample(x.value, 70, 3, 9)}, n)
		makes(t, l, pane.Pane{Count: n, Sum: number(x.sum), Min: x.value, Max: x.value, Time: 70, Src: 3, Seq: 9, Last: x.value})
	}
}

// rising: samples as line.Compare has them, the time ahead of the source, the source ahead of the place; the values go their own way.
var rising = []line.Sample{
	sample(5, 0, 1, 1), sample(9, 0, 1, 2), sample(-3, 0, 1, mostSeq), sample(0, 0, 2, 1), sample(9, 0, 16, 1), sample(lowest, 0, 16, mostSeq),
	sample(4, 1, 1, 1), sample(4, 2, 1, 1), sample(-4, 9, 16, 9), sample(1, 10, 1, 1), sample(highest, 10, 2, 1), sample(2, 10, 10, 1),
	sample(3, 70, 3, 9), sample(8, 70, 3, 10), sample(6, 70, 4, 1), sample(7, 71, 1, 1), sample(0, most, 1, mostSeq), sample(-1, most, 16, 1),
}

func TestLastIsAsSamplesAreCompared(t *testing.T) {
	for i, a := range rising {
		for _, b := range rising[i+1:] {
			for _, l := range [][]line.Sample{{a, b}, {b, a}, {a, b, a}, {b, a, a}, {a, a, b}} {
				got := pane.Of(l...)
				if got.Time != b.Time || got.Src != b.Src || got.Seq != b.Seq || got.Last != b.Value {
					t.Errorf("%v: %+v; want the last to be %v", l, got, b)
				}
			}
			for _, got := range []pane.Pane{pane.Merge(pane.Of(a), pane.Of(b)), pane.Merge(pane.Of(b), pane.Of(a))} {
				if got.Time != b.Time || got.Src != b.Src || got.Seq != b.Seq || got.Last != b.Value {
					t.Errorf("%v, %v: %+v", a, b, got)
				}
			}
		}
	}
}

func TestAlikeTheFirstIsTheLast(t *testing.T) {
	for i, at := range rising {
		alike := func(value int64) line.Sample { return sample(value, at.Time, at.Src, at.Seq) }
		for _, values := range [][]int64{{3, 4}, {4, 3}, {0, 9}, {-1, 0}, {lowest, highest}, {highest, lowest}, {1, 2, 3}, {3, 1, 2}, {2, 2, 1}} {
			var l []line.Sample
			for _, v := range values {
				l = append(l, alike(v))
			}
			if got := pane.Of(l...); got.Last != values[0] || got.Count != int64(len(values)) {
				t.Errorf("%v: %+v", l, got)
			}
			// What is ahead of them, wherever it stands, changes nothing.
			if got := pane.Of(slices.Concat(rising[:i], l, rising[:i])...); got.Last != values[0] {
				t.Errorf("%v among others: %+v", l, got)
			}
			a, b := pane.Of(alike(values[0])), pane.Of(l[1:]...)
			if pane.Merge(a, b).Last != values[0] || pane.Merge(b, a).Last != values[1] {
				t.Errorf("%v: %+v, %+v", l, pane.Merge(a, b), pane.Merge(b, a))
			}
		}
	}
}

func TestMergeWithNone(t *testing.T) {
	merges(t, pane.Pane{}, pane.Pane{}, pane.Pane{})
	for _, s := range rising {
		for _, l := range [][]line.Sample{{s}, {s, s}, {s, sample(-8, 5, 5, 5)}} {
			p := pane.Of(l...)
			merges(t, p, pane.Pane{}, p)
			merges(t, pane.Pane{}, p, p)
		}
	}
}

func TestMerge(t *testing.T) {
	a := pane.Of(of(5, -7, 9)...)
	b := pane.Of(sample(-20, 15, 2, 4), sample(30, 16, 2, 5))
	merges(t, a, b, pane.Pane{Count: 5, Sum: wide.Of(17), Min: -20, Max: 30, Time: 20, Src: 1, Seq: 3, Last: 9})
	merges(t, b, a, pane.Pane{Count: 5, Sum: wide.Of(17), Min: -20, Max: 30, Time: 20, Src: 1, Seq: 3, Last: 9})
	c := pane.Of(sample(-8, 21, 1, 1))
	merges(t, a, c, pane.Pane{Count: 4, Sum: wide.Of(-1), Min: -8, Max: 9, Time: 21, Src: 1, Seq: 1, Last: -8})
	merges(t, a, a, pane.Pane{Count: 6, Sum: wide.Of(14), Min: -7, Max: 9, Time: 20, Src: 1, Seq: 3, Last: 9})
}

// TestMergeOfGreatPanes goes up to as many samples as a count has bits for, of the values at both ends.
func TestMergeOfGreatPanes(t *testing.T) {
	for _, value := range []int64{highest, lowest, 1, -1} {
		p := pane.Of(sample(value, 70, 3, 9))
		for i := range 62 {
			p = pane.Merge(p, p)
			n := int64(2) << i
			if p.Count != n || p.Sum != wide.Mul(value, n) || p.Min != value || p.Max != value || p.Last != value {
				t.Errorf("%d times %d: %+v", n, value, p)
			}
			if a, b, ok := pane.Value(p, api.Avg); a != p.Sum || b != n || !ok {
				t.Errorf("%d times %d: the mean is %v by %d", n, value, a, b)
			}
		}
	}
}

// folds sees to it that Value tells a by b of p, each time; of no b that there is none.
func folds(t *testing.T, p pane.Pane, fold int, a wide.Int, b int64) {
	t.Helper()
	for range 2 {
		if gotA, gotB, ok := pane.Value(p, fold); gotA != a || gotB != b || ok != (b != 0) {
			t.Errorf("%+v by %d: %v by %d, %v; want %v by %d", p, fold, gotA, gotB, ok, a, b)
		}
	}
}

// noFolds: what is no fold of a pane, Quantile among them.
var noFolds = []int{api.Quantile, 0, 8, 9, -1, -6, 100, 256 + api.Sum, 1<<32 + api.Sum, math.MaxInt64, math.MinInt64, math.MinInt64 + api.Count}

func TestValue(t *testing.T) {
	for _, l := range [][]line.Sample{of(5, -7, 9), of(0), of(-4, -4), of(highest, highest, 3), of(lowest, lowest, -3), rising} {
		p := pane.Of(l...)
		folds(t, p, api.Count, wide.Of(p.Count), 1)
		folds(t, p, api.Sum, p.Sum, 1)
		folds(t, p, api.Min, wide.Of(p.Min), 1)
		folds(t, p, api.Max, wide.Of(p.Max), 1)
		folds(t, p, api.Avg, p.Sum, p.Count)
		folds(t, p, api.Last, wide.Of(p.Last), 1)
		for _, fold := range noFolds {
			folds(t, p, fold, wide.Int{}, 0)
		}
	}
	p := pane.Of(of(5, -7, 9, -8)...)
	folds(t, p, api.Count, wide.Of(4), 1)
	folds(t, p, api.Sum, wide.Of(-1), 1)
	folds(t, p, api.Min, wide.Of(-8), 1)
	folds(t, p, api.Max, wide.Of(9), 1)
	folds(t, p, api.Avg, wide.Of(-1), 4)
	folds(t, p, api.Last, wide.Of(-8), 1)
	folds(t, pane.Of(of(6, 2)...), api.Avg, wide.Of(8), 2) // as it is, not brought down to 4 by 1
}

// TestValueOfNone: whatever else a pane of no samples says, and of a count below 0 likewise.
func TestValueOfNone(t *testing.T) {
	full := pane.Of(rising...)
	for _, count := range []int64{0, -1, -5, lowest} {
		odd := full
		odd.Count = count
		for _, p := range []pane.Pane{{Count: count}, odd} {
			for fold := -1; fold <= 9; fold++ {
				folds(t, p, fold, wide.Int{}, 0)
			}
			for _, fold := range noFolds {
				folds(t, p, fold, wide.Int{}, 0)
			}
		}
	}
}

// TestWhatMayNotBe: of samples that line.Check does not take, and of panes that Of does not tell, only that each call ends, panics never and tells the same each time.
func TestWhatMayNotBe(t *testing.T) {
	ends := []int64{lowest, -1, 0, 1, highest}
	for _, n := range ends {
		for _, m := range ends {
			l := []line.Sample{{Value: n, Time: m, Src: int(n), Seq: m}, {}, {Value: m, Time: n, Src: int(m), Seq: n}}
			if pane.Of(l...) != pane.Of(l...) {
				t.Errorf("%v: now so, now so", l)
			}
			for _, lo := range []uint64{0, math.MaxUint64} {
				p := pane.Pane{Count: n, Sum: wide.Int{Hi: m, Lo: lo}, Min: m, Max: n, Time: m, Src: int(n), Seq: m, Last: n}
				q := pane.Pane{Count: m, Sum: wide.Int{Hi: m, Lo: lo}, Min: n, Max: m, Time: n, Src: int(m), Seq: n, Last: m}
				if pane.Merge(p, q) != pane.Merge(p, q) || pane.Merge(p, p) != pane.Merge(p, p) {
					t.Errorf("%+v, %+v: now so, now so", p, q)
				}
			}
		}
	}
}
