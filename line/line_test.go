package line_test

import (
	"fmt"
	"math"
	"slices"
	"strings"
	"testing"

	"belfry/api"
	"belfry/label"
	"belfry/line"
)

// The tests here and in text_test.go are of P601, with P1 to P4, P6 and P8 as far as they bear on it.

// of tells a set of names and values, one behind the other.
func of(l ...string) label.Set {
	var s label.Set
	for i := 0; i < len(l); i += 2 {
		s = append(s, label.Label{Name: l[i], Value: l[i+1]})
	}
	return s
}

// many tells a set of n labels.
func many(n int) label.Set {
	var s label.Set
	for i := range n {
		s = append(s, of(fmt.Sprintf("l%02d", i), fmt.Sprintf("v%d", i))...)
	}
	return s
}

const (
	most    = 1 << 42
	mostSeq = 1 << 53
)

var (
	one       = of("a", "x")
	longName  = strings.Repeat("n", 16)
	longValue = strings.Repeat("v", 64)
	spare     = label.Label{Name: "spare", Value: "room"}
	goodSets  = []label.Set{
		one, of("_", " "), of("a0_", "~"), of("job", "web", "zone", "eu 1"), of(longName, longValue), many(2), many(15), many(16),
		of("a", " "), of("a", "@"), of("a", "#"), of("a", "/"), of("a", "{"), of("a", "}"), of("a", "{}"), of("a", `"`), of("a", `\`), of("a", "-"), of("a", "5"),
		of("a", " 5 @1 #1/1"), of("a", "x} 5 @1 #1/1"), of("a", `"} 5 @1 #1/1`), of("a", "@1 #1/1", "b", "#1/1", "c", "/1"), of("a", `{a="x"} 5 @1 #1/1`),
	}
)

// sample tells one of these parts.
func sample(labels label.Set, value, time int64, src int, seq int64) line.Sample {
	return line.Sample{Labels: labels, Value: value, Time: time, Src: src, Seq: seq}
}

// same tells whether a and b are alike in all.
func same(a, b line.Sample) bool {
	return slices.Equal(a.Labels, b.Labels) && a.Value == b.Value && a.Time == b.Time && a.Src == b.Src && a.Seq == b.Seq
}

// guarded tells s with spare room behind its labels that holds one of its own, and a look whether all of that is untouched.
func guarded(t *testing.T, s line.Sample) (line.Sample, func(what string)) {
	t.Helper()
	room := append(slices.Clone(s.Labels), spare, spare)
	was := slices.Clone(room)
	s.Labels = room[:len(s.Labels)]
	return s, func(what string) {
		t.Helper()
		if !slices.Equal(room, was) {
			t.Errorf("%s changed what was handed in: %.99v; want %.99v", what, room, was)
		}
	}
}

// checks sees to it that Check says e of s, each time, and leaves s as it was.
func checks(t *testing.T, s line.Sample, e api.Errno) {
	t.Helper()
	room, untouched := guarded(t, s)
	for range 2 {
		if got := line.Check(room); got != e {
			t.Errorf("%.99v: %v; want %v", s, got, e)
		}
	}
	untouched("Check")
}

func TestCheck(t *testing.T) {
	for _, labels := range goodSets {
		for _, value := range []int64{0, 1, -1, 5, -5, 1234567890, math.MaxInt64, math.MinInt64, math.MinInt64 + 1} {
			checks(t, sample(labels, value, 70, 3, 9), api.OK)
		}
		for _, time := range []int64{0, 1, 9, 10, 1234567890123, most - 1, most} {
			checks(t, sample(labels, 0, time, 3, 9), api.OK)
		}
		for src := 1; src <= 16; src++ {
			checks(t, sample(labels, -7, 0, src, 9), api.OK)
		}
		for _, seq := range []int64{1, 2, 10, 1 << 32, mostSeq - 1, mostSeq} {
			checks(t, sample(labels, 7, most, 16, seq), api.OK)
		}
	}
}

// noSets: what label.Check refuses, or what this layer does.
var noSets = []struct {
	labels label.Set
	e      api.Errno
}{
	{nil, api.ErrName}, {label.Set{}, api.ErrName},
	{many(17), api.ErrLong}, {many(99), api.ErrLong}, {make(label.Set, 17), api.ErrLong},
	{of("", "x"), api.ErrName}, {of("A", "x"), api.ErrName}, {of("9", "x"), api.ErrName}, {of("a b", "x"), api.ErrName}, {of(" ", "x"), api.ErrName}, {of("a}", "x"), api.ErrName}, {of("a", "x", "B", "y"), api.ErrName}, {of(longName+"n", "x"), api.ErrName}, {make(label.Set, 16), api.ErrName},
	{of("a", "x", "a", "y"), api.ErrTwice}, {of("b", "x", "a", "y"), api.ErrTwice}, {append(many(15), of("a", "x")...), api.ErrTwice},
	{of("a", ""), api.ErrArg}, {of("a", "\n"), api.ErrArg}, {of("a", "\x1f"), api.ErrArg}, {of("a", "\x7f"), api.ErrArg}, {of("a", "\xff"), api.ErrArg}, {of("a", longValue+"v"), api.ErrArg}, {of("a", "x", "b", ""), api.ErrArg},
}

func TestCheckTellsWhatLabelsAreRefusedFor(t *testing.T) {
	for _, x := range noSets {
		if len(x.labels) > 0 {
			if e := label.Check(x.labels); e != x.e {
				t.Errorf("%.99v: label.Check says %v; want %v", x.labels, e, x.e)
			}
		}
		checks(t, sample(x.labels, 5, 70, 3, 9), x.e)
		checks(t, sample(x.labels, 0, 0, 1, 1), x.e)
	}
}

var (
	noTimes = []int64{-1, -2, -70, most + 1, most + 2, 1 << 43, math.MaxInt32 << 32, math.MaxInt64, math.MinInt64, math.MinInt64 + 70}
	noSrcs  = []int{0, 17, 18, -1, -3, -16, 256, 1<<16 + 1, 1<<32 + 3, math.MaxInt64, math.MinInt64, math.MinInt64 + 3}
	noSeqs  = []int64{0, mostSeq + 1, mostSeq + 2, -1, -9, -mostSeq, 1 << 54, math.MaxInt64, math.MinInt64, math.MinInt64 + 9}
)

func TestCheckRefusesNumbers(t *testing.T) {
	for _, labels := range goodSets {
		for _, time := range noTimes {
			checks(t, sample(labels, 5, time, 3, 9), api.ErrArg)
		}
		for _, src := range noSrcs {
			checks(t, sample(labels, 5, 70, src, 9), api.ErrArg)
		}
		for _, seq := range noSeqs {
			checks(t, sample(labels, 5, 70, 3, seq), api.ErrArg)
		}
	}
	// The limits of one number are none of another.
	checks(t, sample(one, most+1, most, 16, most+1), api.OK)
	checks(t, sample(one, mostSeq+1, 17, 16, 17), api.OK)
	checks(t, sample(one, -1, 0, 1, mostSeq), api.OK)
	checks(t, line.Sample{}, api.ErrName)
	checks(t, line.Sample{Labels: one}, api.ErrArg)
}

// TestCheckTellsTheFirst holds the order of the errors: the labels', then none of them, then all that is ErrArg.
func TestCheckTellsTheFirst(t *testing.T) {
	for _, x := range noSets {
		for _, time := range noTimes {
			checks(t, sample(x.labels, 5, time, 3, 9), x.e)
			checks(t, sample(x.labels, 5, time, 0, 0), x.e)
		}
		for _, src := range noSrcs {
			checks(t, sample(x.labels, 5, 70, src, 9), x.e)
		}
		for _, seq := range noSeqs {
			checks(t, sample(x.labels, 5, 70, 3, seq), x.e)
		}
	}
	for _, src := range noSrcs {
		checks(t, sample(one, 5, -1, src, 9), api.ErrArg)
		checks(t, sample(one, 5, 70, src, 0), api.ErrArg)
	}
}

// rising: what samples are compared by, as it rises.
var rising = []line.Sample{
	sample(one, 5, math.MinInt64, 99, 99), sample(one, 5, -1, 16, mostSeq),
	sample(one, 5, 0, math.MinInt64, 99), sample(one, 5, 0, -1, 1), sample(one, 5, 0, 0, 0), sample(one, 5, 0, 0, 1),
	sample(one, 5, 0, 1, math.MinInt64), sample(one, 5, 0, 1, -1), sample(one, 5, 0, 1, 0), sample(one, 5, 0, 1, 1), sample(one, 5, 0, 1, 2), sample(one, 5, 0, 1, 10), sample(one, 5, 0, 1, mostSeq), sample(one, 5, 0, 1, math.MaxInt64),
	sample(one, 5, 0, 2, 1), sample(one, 5, 0, 2, 9), sample(one, 5, 0, 10, 1), sample(one, 5, 0, 16, 1), sample(one, 5, 0, math.MaxInt64, 0),
	sample(one, 5, 1, 1, 1), sample(one, 5, 2, 1, 1), sample(one, 5, 9, 16, 1), sample(one, 5, 10, 1, 1), sample(one, 5, 70, 3, 9),
	sample(one, 5, most-1, 16, mostSeq), sample(one, 5, most, 1, 1), sample(one, 5, most, 1, mostSeq), sample(one, 5, most, 16, 1), sample(one, 5, math.MaxInt64, math.MinInt64, math.MinInt64),
}

// compares sees to it that Compare tells want of a and b, each time, and leaves both as they were.
func compares(t *testing.T, a, b line.Sample, want int) {
	t.Helper()
	left, leftUntouched := guarded(t, a)
	right, rightUntouched := guarded(t, b)
	for range 2 {
		if got := line.Compare(left, right); got != want {
			t.Errorf("%.99v to %.99v: %d; want %d", a, b, got, want)
		}
	}
	leftUntouched("Compare")
	rightUntouched("Compare")
}

func TestCompare(t *testing.T) {
	for i, a := range rising {
		for k, b := range rising {
			want := 0
			if i < k {
				want = -1
			} else if i > k {
				want = 1
			}
			compares(t, a, b, want)
		}
	}
	base := sample(one, 5, 70, 3, 9)
	compares(t, base, base, 0)
	compares(t, base, sample(one, 5, 71, 3, 9), -1)
	compares(t, base, sample(one, 5, 70, 4, 9), -1)
	compares(t, base, sample(one, 5, 70, 3, 10), -1)
	// The time is ahead of the source, the source ahead of the place.
	compares(t, base, sample(one, 5, 71, 2, 8), -1)
	compares(t, base, sample(one, 5, 69, 4, 10), 1)
	compares(t, base, sample(one, 5, 70, 4, 8), -1)
	compares(t, base, sample(one, 5, 70, 2, 10), 1)
}

// TestCompareLooksAtNothingElse: neither labels nor values, whether Check takes them or not.
func TestCompareLooksAtNothingElse(t *testing.T) {
	sets := append(slices.Clone(goodSets), nil, label.Set{}, many(17), of("A", ""))
	values := []int64{0, 1, -1, math.MaxInt64, math.MinInt64}
	for i, labels := range sets {
		for k, value := range values {
			a := sample(sets[len(sets)-1-i], values[len(values)-1-k], 70, 3, 9)
			compares(t, sample(labels, value, 70, 3, 9), a, 0)
			compares(t, sample(labels, value, 70, 3, 8), a, -1)
			compares(t, sample(labels, value, 70, 4, 9), a, 1)
			compares(t, sample(labels, value, 69, 3, 9), a, -1)
		}
	}
}

// TestCompareIsAnOrder goes through all samples of few numbers, two by two and three by three.
func TestCompareIsAnOrder(t *testing.T) {
	var all []line.Sample
	for i := range 27 {
		all = append(all, sample(goodSets[i%len(goodSets)], int64(i%7-3), int64(i%3), i/3%3, int64(i/9)))
	}
	for _, a := range all {
		for _, b := range all {
			order := line.Compare(a, b)
			if order != -line.Compare(b, a) || order < -1 || order > 1 {
				t.Errorf("%v, %v: %d, turned about %d", a, b, order, line.Compare(b, a))
			}
			if alike := a.Time == b.Time && a.Src == b.Src && a.Seq == b.Seq; alike != (order == 0) {
				t.Errorf("%v, %v: %d", a, b, order)
			}
			for _, c := range all {
				behind := line.Compare(b, c)
				if order <= 0 && behind <= 0 && line.Compare(a, c) != min(order, behind) {
					t.Errorf("%v, %v, %v rise: the first to the last is %d", a, b, c, line.Compare(a, c))
				}
			}
		}
	}
}

// TestSamplesThatCheckDoesNotTake: only that each call ends, panics never and leaves what it is handed; Text and Compare tell the same each time.
func TestSamplesThatCheckDoesNotTake(t *testing.T) {
	for _, labels := range []label.Set{nil, make(label.Set, 1000), of("", ""), of("\xff", "\x00"), of("a=", `"`, "A", "\\"), of(strings.Repeat("a", 1<<20), strings.Repeat(`"`, 1<<20))} {
		for _, n := range []int64{0, -1, math.MaxInt64, math.MinInt64} {
			s := sample(labels, n, n, int(n), n)
			room, untouched := guarded(t, s)
			if line.Check(room) == api.OK {
				t.Errorf("%.99v: taken", s)
			}
			if line.Text(room) != line.Text(room) || line.Compare(room, room) != 0 {
				t.Errorf("%.99v: now so, now so", s)
			}
			untouched("a call")
		}
	}
}
