package span_test

import (
	"math"
	"slices"
	"testing"

	"belfry/api"
	"belfry/span"
)

// The tests here and in text_test.go are of P201, with P2 to P4, P6 and P9 as far as they bear on it.

const most = api.MaxTime

// noTimes: numbers that are neither a time nor how long.
var noTimes = []int64{math.MinInt64, math.MinInt64 + 1, -most - 1, -most, -1000, -2, -1, most + 1, most + 2, 2 * most, 1 << 62, math.MaxInt64 - 1, math.MaxInt64}

// times: the edges among them.
var times = []int64{0, 1, 2, 3, 999, 1000, 1001, 60000, 86400000, 1<<32 - 1, 1 << 32, most/2 - 1, most / 2, most/2 + 1, most - 2, most - 1, most}

// want holds what a call said against what it should say; beside an error that is 0.
func want(t *testing.T, what string, args []int64, got int64, e api.Errno, n int64, err api.Errno) {
	t.Helper()
	if got != n || e != err {
		t.Errorf("%s of %v: %d, %v; want %d, %v", what, args, got, e, n, err)
	}
}

func TestCheck(t *testing.T) {
	for _, n := range times {
		if e := span.Check(n); e != api.OK {
			t.Errorf("%d: %v; want ok", n, e)
		}
	}
	for _, n := range noTimes {
		if e := span.Check(n); e != api.ErrArg {
			t.Errorf("%d: %v; want arg", n, e)
		}
	}
}

func TestAdd(t *testing.T) {
	for _, x := range []struct {
		t, d, want int64
		e          api.Errno
	}{
		{0, 0, 0, api.OK},
		{0, 7, 7, api.OK},
		{7, 0, 7, api.OK},
		{1000, 234, 1234, api.OK},
		{most, 0, most, api.OK},
		{0, most, most, api.OK},
		{most - 1, 1, most, api.OK},
		{1, most - 1, most, api.OK},
		{most / 2, most / 2, most, api.OK},
		{most, 1, 0, api.ErrOver},
		{1, most, 0, api.ErrOver},
		{most/2 + 1, most / 2, 0, api.ErrOver},
		{most, most, 0, api.ErrOver},
	} {
		got, e := span.Add(x.t, x.d)
		want(t, "Add", []int64{x.t, x.d}, got, e, x.want, x.e)
	}
}

func TestAddRefuses(t *testing.T) {
	for _, bad := range noTimes {
		for _, n := range slices.Concat(times, noTimes) {
			got, e := span.Add(bad, n)
			want(t, "Add", []int64{bad, n}, got, e, 0, api.ErrArg)
			got, e = span.Add(n, bad)
			want(t, "Add", []int64{n, bad}, got, e, 0, api.ErrArg)
		}
	}
}

func TestFloorAndNext(t *testing.T) {
	for _, x := range []struct {
		t, step, floor, next int64
		e                    api.Errno // of Next
	}{
		{0, 1, 0, 1, api.OK},
		{0, 10, 0, 10, api.OK},
		{1, 10, 0, 10, api.OK},
		{9, 10, 0, 10, api.OK},
		{10, 10, 10, 20, api.OK},
		{11, 10, 10, 20, api.OK},
		{10, 1, 10, 11, api.OK},
		{59999, 60000, 0, 60000, api.OK},
		{60000, 60000, 60000, 120000, api.OK},
		{0, most, 0, most, api.OK},
		{most - 1, most, 0, most, api.OK},
		{most, most, most, 0, api.ErrOver},
		{most - 1, 1, most - 1, most, api.OK},
		{most, 1, most, 0, api.ErrOver},
		{most, 2, most, 0, api.ErrOver},
		{most - 1, 2, most - 2, most, api.OK},
		{most - 1, most - 1, most - 1, 0, api.ErrOver},
		{most - 2, most - 1, 0, most - 1, api.OK},
		{most/2 + 1, most/2 + 1, most/2 + 1, 0, api.ErrOver},
		{most, 10, 4398046511100, 0, api.ErrOver},
		{4398046511100, 10, 4398046511100, 0, api.ErrOver},
		{4398046511099, 10, 4398046511090, 4398046511100, api.OK},
	} {
		got, e := span.Floor(x.t, x.step)
		want(t, "Floor", []int64{x.t, x.step}, got, e, x.floor, api.OK)
		got, e = span.Next(x.t, x.step)
		want(t, "Next", []int64{x.t, x.step}, got, e, x.next, x.e)
	}
}

// TestFloorAndNextOfAll holds both against what their words say of each time and step of the edges.
func TestFloorAndNextOfAll(t *testing.T) {
	for _, n := range times {
		for _, step := range times[1:] {
			floor := n / step * step
			got, e := span.Floor(n, step)
			want(t, "Floor", []int64{n, step}, got, e, floor, api.OK)
			next, err := floor+step, api.OK
			if next > most {
				next, err = 0, api.ErrOver
			}
			got, e = span.Next(n, step)
			want(t, "Next", []int64{n, step}, got, e, next, err)
		}
	}
}

func TestFloorAndNextRefuse(t *testing.T) {
	refuse := func(n, step int64) {
		t.Helper()
		got, e := span.Floor(n, step)
		want(t, "Floor", []int64{n, step}, got, e, 0, api.ErrArg)
		got, e = span.Next(n, step)
		want(t, "Next", []int64{n, step}, got, e, 0, api.ErrArg)
	}
	for _, bad := range noTimes {
		for _, n := range slices.Concat(times, noTimes) {
			refuse(bad, n)
			refuse(n, bad)
		}
	}
	for _, n := range slices.Concat(times, noTimes) {
		refuse(n, 0)
	}
}

// wantSteps holds what Steps said against the places that it should tell.
func wantSteps(t *testing.T, from, to, step int64, l []int64, err api.Errno) {
	t.Helper()
	if got, e := span.Steps(from, to, step); !slices.Equal(got, l) || e != err {
		t.Errorf("Steps of %d, %d, %d: %d places, %v, %v; want %v, %v", from, to, step, len(got), got[:min(len(got), 30)], e, l, err)
	}
}

func TestSteps(t *testing.T) {
	for _, x := range []struct {
		from, to, step int64
		want           []int64
	}{
		{-1, 0, 1, []int64{0}},
		{-1, 0, 5, []int64{0}},
		{-1, 0, most, []int64{0}},
		{-1, 4, 5, []int64{0}},
		{-1, 5, 5, []int64{0, 5}},
		{-1, 11, 5, []int64{0, 5, 10}},
		{-1, 3, 1, []int64{0, 1, 2, 3}},
		{-1, most, most, []int64{0, most}},
		{0, 0, 5, nil},
		{0, 4, 5, nil},
		{0, 5, 5, []int64{5}},
		{0, 3, 1, []int64{1, 2, 3}},
		{0, most, most, []int64{most}},
		{0, most - 1, most, nil},
		{4, 5, 5, []int64{5}},
		{4, 10, 5, []int64{5, 10}},
		{5, 10, 5, []int64{10}},
		{5, 9, 5, nil},
		{6, 10, 5, []int64{10}},
		{6, 9, 5, nil},
		{7, 21, 7, []int64{14, 21}},
		{most - 1, most, 1, []int64{most}},
		{most - 1, most, most, []int64{most}},
		{most - 3, most, 2, []int64{most - 2, most}},
		{1, most, most/2 + 1, []int64{most/2 + 1}},
	} {
		wantSteps(t, x.from, x.to, x.step, x.want, api.OK)
	}
}

func TestStepsTellNoneFromBehindTo(t *testing.T) {
	for _, step := range []int64{1, 2, 5, most - 1, most} {
		wantSteps(t, most, most, step, nil, api.OK)
		for _, to := range []int64{0, 1, 4, 5, 6, 99, most - 1, most} {
			for _, from := range []int64{to, to + 1, to + 5, most, most + 1, 2 * most, math.MaxInt64 - 1, math.MaxInt64} {
				wantSteps(t, from, to, step, nil, api.OK)
			}
		}
	}
}

// TestStepsOfAll holds Steps against going through all times that are small.
func TestStepsOfAll(t *testing.T) {
	for from := int64(-1); from < 20; from++ {
		for to := int64(0); to < 20; to++ {
			for step := int64(1); step < 22; step++ {
				var l []int64
				for n := from + 1; n <= to; n++ {
					if n%step == 0 {
						l = append(l, n)
					}
				}
				wantSteps(t, from, to, step, l, api.OK)
			}
		}
	}
}

func TestStepsTellSoManyAndNoMore(t *testing.T) {
	const many = 100000
	for _, x := range []struct{ from, to, step, first int64 }{
		{0, many, 1, 1},
		{-1, many - 1, 1, 0},
		{-1, 7*many - 7, 7, 0},
		{-1, 7*many - 1, 7, 0},
		{6, 7 * many, 7, 7},
		{most - many, most, 1, most - many + 1},
		{0, most, 43980465, 43980465},
	} {
		l, e := span.Steps(x.from, x.to, x.step)
		if len(l) != many || e != api.OK {
			t.Fatalf("%v: %d places, %v; want %d", x, len(l), e, many)
		}
		for i, n := range l {
			if n != x.first+int64(i)*x.step {
				t.Fatalf("%v: place %d: %d", x, i, n)
			}
		}
	}
	for _, x := range []struct{ from, to, step int64 }{
		{0, many + 1, 1},
		{-1, many, 1},
		{-1, 7 * many, 7},
		{6, 7*many + 7, 7},
		{most - many - 1, most, 1},
		{0, most, 1},
		{-1, most, 1},
		{-1, most, 43980465},
	} {
		wantSteps(t, x.from, x.to, x.step, nil, api.ErrLong)
	}
}

func TestStepsRefuse(t *testing.T) {
	for _, n := range slices.Concat(times, noTimes) {
		for _, from := range []int64{math.MinInt64, math.MinInt64 + 1, -most, -3, -2} {
			wantSteps(t, from, n, 1, nil, api.ErrArg)
			wantSteps(t, from, 10, n, nil, api.ErrArg)
		}
		for _, bad := range noTimes {
			wantSteps(t, -1, bad, n, nil, api.ErrArg)
			wantSteps(t, n, bad, 1, nil, api.ErrArg)
			wantSteps(t, -1, n, bad, nil, api.ErrArg)
			wantSteps(t, n, 10, bad, nil, api.ErrArg)
		}
		wantSteps(t, -1, n, 0, nil, api.ErrArg)
		wantSteps(t, n, 10, 0, nil, api.ErrArg)
	}
	// Ahead of too many places.
	wantSteps(t, -2, most, 1, nil, api.ErrArg)
	wantSteps(t, 0, most+1, 1, nil, api.ErrArg)
	wantSteps(t, 0, most, -1, nil, api.ErrArg)
}

func TestStepsAreNewEachTime(t *testing.T) {
	a, _ := span.Steps(-1, 20, 5)
	b, _ := span.Steps(-1, 20, 5)
	room := a[:cap(a)]
	for i := range room {
		room[i] = -7
	}
	_ = append(a, -8)
	if whole := []int64{0, 5, 10, 15, 20}; !slices.Equal(b, whole) {
		t.Errorf("%v; want %v", b, whole)
	}
	wantSteps(t, -1, 20, 5, []int64{0, 5, 10, 15, 20}, api.OK)
}
