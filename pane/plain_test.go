package pane_test

import (
	"math/big"
	"math/rand"
	"slices"
	"testing"

	"belfry/line"
	"belfry/pane"
	"belfry/wide"
)

// plain tells what l come to by other means: each thing asked of all of l on its own, the sum by the library.
func plain(l []line.Sample) pane.Pane {
	if len(l) == 0 {
		return pane.Pane{}
	}
	sum := new(big.Int)
	var values []int64
	for _, s := range l {
		sum.Add(sum, big.NewInt(s.Value))
		values = append(values, s.Value)
	}
	sorted := slices.Clone(l)
	slices.SortStableFunc(sorted, func(a, b line.Sample) int { return line.Compare(b, a) }) // the last ahead, alike as they came
	end := sorted[0]
	return pane.Pane{Count: int64(len(l)), Sum: number(sum.String()), Min: slices.Min(values), Max: slices.Max(values), Time: end.Time, Src: end.Src, Seq: end.Seq, Last: end.Value}
}

// splits sees to it that the samples of l come to the same in one, in two parts cut anywhere, and in three.
func splits(t *testing.T, l []line.Sample) {
	t.Helper()
	want := plain(l)
	makes(t, l, want)
	for i := range len(l) + 1 {
		merges(t, pane.Of(l[:i]...), pane.Of(l[i:]...), want)
		for k := i; k <= len(l); k++ {
			a, b, c := pane.Of(l[:i]...), pane.Of(l[i:k]...), pane.Of(l[k:]...)
			merges(t, pane.Merge(a, b), c, want)
			merges(t, a, pane.Merge(b, c), want)
		}
	}
}

// TestAllShortLists goes through all lists of up to four of nine samples, of which some are alike but for the value.
func TestAllShortLists(t *testing.T) {
	few := []line.Sample{
		sample(1, 5, 1, 1), sample(-2, 5, 1, 1), sample(3, 5, 1, 1), sample(0, 5, 1, 2), sample(-9, 5, 2, 1),
		sample(-9, 6, 1, 1), sample(9, 6, 1, 1), sample(lowest, 0, 2, 2), sample(highest, 7, 1, 1),
	}
	var through func(l []line.Sample)
	through = func(l []line.Sample) {
		splits(t, l)
		if len(l) == 4 {
			return
		}
		for _, s := range few {
			through(append(slices.Clip(l), s))
		}
	}
	through(nil)
}

// TestLongLists: some samples alike, some at the ends of what may be.
func TestLongLists(t *testing.T) {
	r := rand.New(rand.NewSource(12))
	ends := []int64{lowest, lowest + 1, -1, 0, 1, highest - 1, highest}
	for range 300 {
		var l []line.Sample
		for range r.Intn(30) {
			value := ends[r.Intn(len(ends))]
			if r.Intn(2) == 0 {
				value = r.Int63n(21) - 10
			}
			l = append(l, sample(value, r.Int63n(4), 1+r.Intn(3), 1+r.Int63n(3)))
		}
		splits(t, l)
	}
}

// TestOrderDoesNotMatter of samples of which no two are alike by time, source and place.
func TestOrderDoesNotMatter(t *testing.T) {
	r := rand.New(rand.NewSource(21))
	l := slices.Clone(rising)
	want := plain(l)
	for range 500 {
		r.Shuffle(len(l), func(i, k int) { l[i], l[k] = l[k], l[i] })
		makes(t, l, want)
		i := r.Intn(len(l) + 1)
		merges(t, pane.Of(l[:i]...), pane.Of(l[i:]...), want)
		merges(t, pane.Of(l[i:]...), pane.Of(l[:i]...), want)
	}
	if want.Sum != wide.Sum(5, 9, -3, 0, 9, lowest, 4, 4, -4, 1, highest, 2, 3, 8, 6, 7, 0, -1) {
		t.Errorf("the sum: %v", want.Sum)
	}
}
