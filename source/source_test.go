package source_test

import (
	"fmt"
	"math"
	"slices"
	"testing"

	"belfry/api"
	"belfry/label"
	"belfry/line"
	"belfry/source"
)

// The tests here and in plain_test.go are of P1501, with P1 to P8 as far as they bear on it.

const (
	most     = 1 << 42
	mostSeq  = 1 << 53
	mostIdle = 1000000
	highest  = math.MaxInt64
	lowest   = math.MinInt64
)

// sample tells one of this source, place and time.
func sample(src int, seq, time int64) line.Sample {
	return line.Sample{Labels: label.Set{{Name: "job", Value: "web"}}, Value: 7, Time: time, Src: src, Seq: seq}
}

// open tells a table that heard these samples.
func open(t *testing.T, late int64, idle int, l ...line.Sample) *source.Table {
	t.Helper()
	x, e := source.New(late, idle)
	if e != api.OK || x == nil {
		t.Fatalf("late %d, idle %d: %v", late, idle, e)
	}
	puts(t, x, l...)
	return x
}

// puts lets x hear these samples.
func puts(t *testing.T, x *source.Table, l ...line.Sample) {
	t.Helper()
	for _, s := range l {
		if e := x.Put(s); e != api.OK {
			t.Fatalf("%v: %v", s, e)
		}
	}
}

// ticks lets time go on n times.
func ticks(x *source.Table, n int) {
	for range n {
		x.Tick()
	}
}

// tells sees to it that x has that frontier and these live sources, each time.
func tells(t *testing.T, x *source.Table, front int64, live ...int) {
	t.Helper()
	for range 2 {
		if f, l := x.Frontier(), x.Live(); f != front || !slices.Equal(l, live) {
			t.Errorf("%d, %v; want %d, %v", f, l, front, live)
		}
	}
}

// last sees to it that src has that place and greatest time, and is seen just up to there.
func last(t *testing.T, x *source.Table, src int, seq, time int64) {
	t.Helper()
	for range 2 {
		if s, m, ok := x.Last(src); s != seq || m != time || ok != (seq > 0) {
			t.Errorf("Last(%d): %d, %d, %v; want %d, %d", src, s, m, ok, seq, time)
		}
		for _, n := range []int64{lowest, -1, 0, seq - 1, seq, seq + 1, seq + 2, mostSeq, mostSeq + 1, highest} {
			if got := x.Seen(src, n); got != (n <= seq) {
				t.Errorf("Seen(%d, %d): %v", src, n, got)
			}
		}
	}
}

// all tells whatever x can be asked.
func all(x *source.Table) string {
	out := fmt.Sprint(x.Frontier(), x.Live())
	for src := -1; src <= api.MaxSources+1; src++ {
		seq, time, ok := x.Last(src)
		out += fmt.Sprint(" ", seq, time, ok, x.Seen(src, seq), x.Seen(src, seq+1))
	}
	return out
}

// refuses sees to it that x answers that error, and then what it did ahead of it, Ticks later too.
func refuses(t *testing.T, x *source.Table, s line.Sample, want api.Errno) {
	t.Helper()
	twin, other := x.Twin(), x.Twin()
	if e := twin.Put(s); e != want {
		t.Errorf("%v: %v, want %v", s, e, want)
	}
	for i := range 6 {
		if got, ahead := all(twin), all(other); got != ahead {
			t.Errorf("%v: %d Ticks later %s; want %s", s, i, got, ahead)
		}
		twin.Tick()
		other.Tick()
	}
}

func TestNew(t *testing.T) {
	for _, late := range []int64{0, 1, 1000, most - 1, most} {
		for _, idle := range []int{1, 2, mostIdle - 1, mostIdle} {
			x := open(t, late, idle)
			tells(t, x, 0)
			for _, src := range []int{math.MinInt, -1, 0, 1, 2, api.MaxSources, api.MaxSources + 1, math.MaxInt} {
				last(t, x, src, 0, 0)
			}
		}
	}
	for _, late := range []int64{lowest, -most, -1, most + 1, 2 * most, highest} {
		wrong(t, late, 1)
		wrong(t, late, 0)
	}
	for _, idle := range []int{math.MinInt, -1, 0, mostIdle + 1, math.MaxInt, 1<<32 + 1} {
		wrong(t, 0, idle)
		wrong(t, most, idle)
	}
}

// wrong sees to it that there is no such table.
func wrong(t *testing.T, late int64, idle int) {
	t.Helper()
	if x, e := source.New(late, idle); x != nil || e != api.ErrArg {
		t.Errorf("late %d, idle %d: %v, %v", late, idle, x, e)
	}
}

// TestPut: a source's last place, and its greatest time, which need not be of its last place.
func TestPut(t *testing.T) {
	x := open(t, 1000, 5)
	for _, c := range []struct {
		s         line.Sample
		seq, time int64
	}{
		{sample(1, 1, 500), 1, 500}, {sample(1, 2, 500), 2, 500}, {sample(1, 5, 300), 5, 500}, {sample(1, 6, 0), 6, 500},
		{sample(1, 7, 501), 7, 501}, {sample(1, 1000, 400), 1000, 501}, {sample(1, mostSeq, 1400), mostSeq, 1400},
	} {
		puts(t, x, c.s)
		last(t, x, 1, c.seq, c.time)
		last(t, x, 2, 0, 0)
	}
	for src := 1; src <= api.MaxSources; src++ {
		x := open(t, 0, 1, sample(src, 3, most))
		last(t, x, src, 3, most)
		last(t, x, src-1, 0, 0)
		last(t, x, src+1, 0, 0)
		tells(t, x, most, src)
	}
	// places are of a source, not of its labels; a time of 0 is one like others
	y := open(t, 0, 1, sample(1, 1, 0), sample(2, 1, 0))
	s := sample(1, 1, 0)
	s.Labels = label.Set{{Name: "job", Value: "db"}}
	refuses(t, y, s, api.ErrTwice)
	last(t, y, 1, 1, 0)
	tells(t, y, 0, 1, 2)
}

func TestPutRefuses(t *testing.T) {
	x := open(t, 10, 3, sample(1, 5, 100), sample(2, 7, 200))
	x.Tick()
	tells(t, x, 90, 1, 2)
	for _, c := range []struct {
		s    line.Sample
		want api.Errno
	}{
		{sample(1, 5, 100), api.ErrTwice}, {sample(1, 4, 100), api.ErrTwice}, {sample(1, 1, most), api.ErrTwice},
		{sample(2, 6, 300), api.ErrTwice}, {sample(2, 7, 90), api.ErrTwice}, {sample(1, 5, 89), api.ErrTwice}, {sample(1, 5, 0), api.ErrTwice},
		{sample(1, 6, 89), api.ErrLate}, {sample(1, 6, 0), api.ErrLate}, {sample(2, 8, 89), api.ErrLate}, {sample(3, 1, 89), api.ErrLate},
		{sample(1, 6, 90), api.OK}, {sample(3, 1, 90), api.OK},
		{sample(1, 6, -1), api.ErrArg}, {sample(1, 5, -1), api.ErrArg}, {sample(1, 6, most+1), api.ErrArg}, {sample(1, 6, highest), api.ErrArg},
		{sample(1, 0, 100), api.ErrArg}, {sample(1, -1, 0), api.ErrArg}, {sample(1, mostSeq+1, 100), api.ErrArg}, {sample(1, highest, 100), api.ErrArg},
		{sample(0, 6, 100), api.ErrArg}, {sample(-1, 6, 100), api.ErrArg}, {sample(17, 6, 100), api.ErrArg}, {sample(math.MaxInt, 6, 0), api.ErrArg},
		{line.Sample{Time: 100, Src: 1, Seq: 6}, api.ErrName}, {line.Sample{Time: 0, Src: 1, Seq: 5}, api.ErrName},
		{named("a b", "x", 6), api.ErrName}, {named("a", "", 6), api.ErrArg}, {named("a b", "x", 5), api.ErrName},
	} {
		if c.want != api.OK {
			refuses(t, x, c.s, c.want)
			continue
		}
		puts(t, x.Twin(), c.s)
	}
	tells(t, x, 90, 1, 2)
	last(t, x, 1, 5, 100)
	last(t, x, 2, 7, 200)
}

// named tells a sample of one label, which may be wrong, below the frontier.
func named(name, value string, seq int64) line.Sample {
	s := sample(1, seq, 0)
	s.Labels = label.Set{{Name: name, Value: value}}
	return s
}

// TestFrontier: the least of the greatest times, less late, never below 0 and never back.
func TestFrontier(t *testing.T) {
	x := open(t, 10, 9, sample(4, 1, 9))
	tells(t, x, 0, 4)
	for _, c := range []struct {
		s     line.Sample
		front int64
		live  []int
	}{
		{sample(4, 2, 10), 0, []int{4}}, {sample(4, 3, 11), 1, []int{4}}, {sample(4, 4, 50), 40, []int{4}}, {sample(4, 5, 45), 40, []int{4}},
		{sample(2, 1, 40), 40, []int{2, 4}}, // it would be 30: not back
		{sample(4, 6, 90), 40, []int{2, 4}}, {sample(2, 2, 50), 40, []int{2, 4}}, {sample(2, 3, 51), 41, []int{2, 4}},
		{sample(16, 1, 500), 41, []int{2, 4, 16}}, {sample(1, 1, 41), 41, []int{1, 2, 4, 16}}, {sample(2, 4, 300), 41, []int{1, 2, 4, 16}},
		{sample(1, 2, 80), 70, []int{1, 2, 4, 16}}, {sample(1, 3, 800), 80, []int{1, 2, 4, 16}}, {sample(4, 7, 700), 290, []int{1, 2, 4, 16}},
	} {
		puts(t, x, c.s)
		tells(t, x, c.front, c.live...)
	}
	// late at its ends
	tells(t, open(t, 0, 1, sample(1, 1, most)), most, 1)
	tells(t, open(t, 1, 1, sample(1, 1, most)), most-1, 1)
	tells(t, open(t, most-1, 1, sample(1, 1, most)), 1, 1)
	y := open(t, most, 1, sample(1, 1, most), sample(2, 1, 0))
	tells(t, y, 0, 1, 2)
	// just at the frontier it is not too late
	z := open(t, 0, 1, sample(1, 1, most), sample(1, 2, most), sample(2, 1, most))
	refuses(t, z, sample(2, 2, most-1), api.ErrLate)
}

// TestTick: who was not heard in so many Ticks is idle and holds nobody up, till it is heard.
func TestTick(t *testing.T) {
	for _, idle := range []int{1, 2, 3, 10, mostIdle} {
		x := open(t, 0, idle, sample(1, 1, 10))
		ticks(x, idle-1)
		tells(t, x, 10, 1)
		puts(t, x, sample(2, 1, 50))
		tells(t, x, 10, 1, 2)
		x.Tick()
		if idle == 1 {
			tells(t, x, 10)
			continue
		}
		tells(t, x, 50, 2)
		last(t, x, 1, 1, 10)
		ticks(x, idle-2)
		tells(t, x, 50, 2)
		x.Tick()
		tells(t, x, 50)
		ticks(x, 3)
		tells(t, x, 50)
		last(t, x, 2, 1, 50)
	}
}

// TestHeardAgain: who was idle counts again, with the greatest time it ever had.
func TestHeardAgain(t *testing.T) {
	x := open(t, 100, 2, sample(2, 1, 200), sample(1, 1, 500))
	tells(t, x, 100, 1, 2)
	ticks(x, 2)
	tells(t, x, 100) // of none it stays
	puts(t, x, sample(1, 2, 300))
	tells(t, x, 400, 1) // of 500, not of 300
	last(t, x, 1, 2, 500)
	last(t, x, 2, 1, 200)
	refuses(t, x, sample(2, 2, 399), api.ErrLate)
	refuses(t, x, sample(2, 1, 600), api.ErrTwice) // idle or not
	puts(t, x, sample(2, 2, 450))
	tells(t, x, 400, 1, 2)
	// each Put counts anew, be its time as low as it may
	for i := range int64(5) {
		x.Tick()
		puts(t, x, sample(1, 3+i, 400))
	}
	tells(t, x, 400, 1)
	x.Tick()
	tells(t, x, 400, 1)
	x.Tick()
	tells(t, x, 400)
}

// TestRefusedIsNotHeard: who is only refused gets idle.
func TestRefusedIsNotHeard(t *testing.T) {
	x := open(t, 0, 2, sample(1, 1, 50))
	for range 2 {
		x.Put(sample(1, 1, 60))
		x.Put(sample(1, 2, 49))
		x.Put(sample(1, 2, -1))
		tells(t, x, 50, 1)
		x.Tick()
	}
	tells(t, x, 50)
	x.Put(sample(1, 2, 49))
	tells(t, x, 50)
}

func TestRaise(t *testing.T) {
	x := open(t, 10, 2)
	for _, c := range []struct{ f, want int64 }{{0, 0}, {-1, 0}, {lowest, 0}, {7, 7}, {7, 7}, {6, 7}, {0, 7}, {-5, 7}, {8, 8}} {
		x.Raise(c.f)
		tells(t, x, c.want)
	}
	refuses(t, x, sample(1, 1, 7), api.ErrLate)
	puts(t, x, sample(1, 1, 8))
	tells(t, x, 8, 1)
	last(t, x, 1, 1, 8)
	puts(t, x, sample(1, 2, 30))
	tells(t, x, 20, 1)
	x.Raise(25)
	tells(t, x, 25, 1)
	puts(t, x, sample(1, 3, 33))
	tells(t, x, 25, 1)
	x.Tick()
	tells(t, x, 25, 1)
	puts(t, x, sample(1, 4, 36))
	tells(t, x, 26, 1)
	last(t, x, 1, 4, 36)
	x.Raise(most)
	refuses(t, x, sample(1, 5, most-1), api.ErrLate)
	puts(t, x, sample(1, 5, most))
	tells(t, x, most, 1)
}

// TestLive: the sources rise, whoever came first, and each list is the caller's own.
func TestLive(t *testing.T) {
	x := open(t, 0, 2)
	for src := api.MaxSources; src >= 1; src-- {
		puts(t, x, sample(src, 1, 100))
	}
	x.Tick()
	var odd []int
	for src := 1; src <= api.MaxSources; src += 2 {
		odd = append(odd, src)
		puts(t, x, sample(src, 2, 90+10))
	}
	x.Tick()
	tells(t, x, 100, odd...)
	l := x.Live()
	clear(l[:cap(l)])
	tells(t, x, 100, odd...)
}

// TestTwin: alike in all, and each on its own from then on.
func TestTwin(t *testing.T) {
	x := open(t, 10, 3, sample(3, 2, 80), sample(1, 4, 100))
	x.Tick()
	x.Raise(75)
	y := x.Twin()
	if all(x) != all(y) {
		t.Errorf("%s; %s", all(x), all(y))
	}
	puts(t, x, sample(2, 1, 300), sample(1, 5, 300), sample(3, 3, 300))
	tells(t, x, 290, 1, 2, 3)
	tells(t, y, 75, 1, 3)
	last(t, y, 1, 4, 100)
	last(t, y, 2, 0, 0)
	ticks(y, 2)
	tells(t, y, 75)
	y.Raise(1000)
	ticks(x, 2)
	tells(t, x, 290, 1, 2, 3)
	x.Tick()
	tells(t, x, 290)
	tells(t, y, 1000)
	// late and idle are alike, too
	puts(t, y, sample(2, 1, 2000))
	tells(t, y, 1990, 2)
	ticks(y, 2)
	tells(t, y, 1990, 2)
	y.Tick()
	tells(t, y, 1990)
}

// TestHandedIn: the labels of a sample, and the room behind them, stay as they were.
func TestHandedIn(t *testing.T) {
	room := label.Set{{Name: "a", Value: "x"}, {Name: "b", Value: "y"}, {Name: "c", Value: "z"}}
	s := sample(1, 1, 10)
	s.Labels = room[:2]
	x := open(t, 0, 1, s)
	x.Put(s)
	if fmt.Sprint(room) != "[{a x} {b y} {c z}]" {
		t.Error(room)
	}
	before := all(x)
	room[0].Name, room[2].Value = "q", ""
	if all(x) != before {
		t.Error("the labels are kept")
	}
}

// TestWhatMayNotBe: a call ends and does not panic, whatever it is given.
func TestWhatMayNotBe(t *testing.T) {
	x := open(t, 0, 1, sample(1, 1, 1))
	x.Raise(highest)
	refuses(t, x, sample(1, 2, most), api.ErrLate)
	ticks(x, 3)
	var none source.Table
	all(&none)
	none.Put(sample(1, 1, 5))
	none.Put(sample(17, 1, 5))
	none.Tick()
	none.Raise(lowest)
	all(none.Twin())
}
