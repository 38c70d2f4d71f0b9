package store_test

import (
	"fmt"
	"math/rand"
	"slices"
	"testing"

	"belfry/api"
	"belfry/hist"
	"belfry/label"
	"belfry/line"
	"belfry/pane"
	"belfry/store"
)

// plain is a store as a plain list of all samples, as they came.
type plain struct {
	grid int64
	all  []line.Sample
}

// end tells the multiple of the grid that is not below time.
func (p *plain) end(time int64) int64 {
	end := time / p.grid * p.grid
	if end < time {
		end += p.grid
	}
	return end
}

// of tells the samples of l whose times are above from and not above to.
func (p *plain) of(l label.Set, from, to int64) []line.Sample {
	var some []line.Sample
	for _, x := range p.all {
		if slices.Equal(x.Labels, l) && x.Time > from && x.Time <= to {
			some = append(some, x)
		}
	}
	return some
}

// series tells the labels of all samples, each once.
func (p *plain) series() []label.Set {
	var l []label.Set
	for _, x := range p.all {
		if !slices.ContainsFunc(l, func(s label.Set) bool { return slices.Equal(s, x.Labels) }) {
			l = append(l, x.Labels)
		}
	}
	slices.SortFunc(l, label.Compare)
	return l
}

// evict takes away what lies in panes not above before.
func (p *plain) evict(before int64) int {
	n := len(p.all)
	p.all = slices.DeleteFunc(p.all, func(x line.Sample) bool { return p.end(x.Time) <= before })
	return n - len(p.all)
}

// pair is a store, and the plain one that it is held against.
type pair struct {
	s *store.Store
	p plain
}

// both tells a pair without samples.
func both(t *testing.T, grid int64) *pair { return &pair{open(t, grid), plain{grid: grid}} }

// put lays x into both.
func (x *pair) put(t *testing.T, s line.Sample) {
	t.Helper()
	puts(t, x.s, s)
	x.p.all = append(x.p.all, s)
}

// evict lets panes go in both.
func (x *pair) evict(t *testing.T, before int64) {
	t.Helper()
	evicts(t, x.s, before, x.p.evict(before))
}

// twin goes on with another one, while the old one goes its own way.
func (x *pair) twin() {
	old := x.s
	x.s = old.Twin()
	old.Put(sample(few[0], 77, 3, 1))
	old.Evict(2)
	old.Put(sample(few[1], 78, 1, 1))
}

// same sees to it that both have the same samples and series.
func (x *pair) same(t *testing.T) {
	t.Helper()
	holds(t, x.s, len(x.p.all), told(x.p.series()))
}

// ranges sees to it that both tell the same of l and of these ends, be they right or wrong.
func (x *pair) ranges(t *testing.T, l label.Set, from, to int64) {
	t.Helper()
	p, e := x.s.Range(l, from, to)
	h, g := x.s.Hist(l, from, to)
	var wantP pane.Pane
	var wantH hist.Hist
	want := api.ErrArg
	if from >= 0 && to >= from && x.p.end(from) == from && x.p.end(to) == to {
		want = api.OK
		some := x.p.of(l, from, to)
		wantP = pane.Of(some...)
		for _, s := range some {
			wantH.Put(s.Value)
		}
	}
	if p != wantP || e != want {
		t.Fatalf("Range of %v, %d to %d: %+v, %v; want %+v, %v", l, from, to, p, e, wantP, want)
	}
	if h != wantH || g != want {
		t.Fatalf("Hist of %v, %d to %d: %v, %v; want %v, %v", l, from, to, h, g, wantH, want)
	}
}

// few: labels of some series, and of one that is never put.
var few = []label.Set{set("a=x"), set("a=x", "b=y"), set("b=x"), set("c=x")}

// TestAllShortWalks goes through all rows of few moves, and looks at all ranges behind each.
func TestAllShortWalks(t *testing.T) {
	type move func(x *pair)
	var moves []move
	for _, s := range []line.Sample{
		sample(few[0], 5, 0, 1), sample(few[0], 7, 1, 1), sample(few[0], -7, 1, 1), sample(few[0], 1, 2, 1),
		sample(few[1], 3, 2, 1), sample(few[0], 9, 3, 1), sample(few[0], 8, 6, 1),
	} {
		moves = append(moves, func(x *pair) { x.put(t, s) })
	}
	for _, before := range []int64{0, 1, 2, 3, 4} {
		moves = append(moves, func(x *pair) { x.evict(t, before) })
	}
	moves = append(moves, func(x *pair) { x.twin() })
	var row []int
	var from func(left int)
	from = func(left int) {
		x := both(t, 2)
		for _, m := range row {
			moves[m](x)
		}
		x.same(t)
		for from := int64(-2); from <= 7; from++ {
			for to := from - 2; to <= 8; to++ {
				x.ranges(t, few[0], from, to)
				x.ranges(t, few[1], from, to)
			}
		}
		if t.Failed() {
			t.Fatalf("moves %v", row)
		}
		if left == 0 {
			return
		}
		for m := range moves {
			row = append(row, m)
			from(left - 1)
			row = row[:len(row)-1]
		}
	}
	from(3)
}

// TestLongWalks goes through rows of many moves of many kinds, the same ones each time.
func TestLongWalks(t *testing.T) {
	r := rand.New(rand.NewSource(1401))
	for _, grid := range []int64{1, 2, 3, 7, 10, 60, 1000} {
		for range 5 {
			x := both(t, grid)
			for range 400 {
				l, time := few[r.Intn(3)], r.Int63n(12*grid)
				switch r.Intn(12) {
				case 0:
					x.evict(t, time-grid)
				case 1:
					x.twin()
				default:
					x.put(t, line.Sample{Labels: l, Value: r.Int63n(2000) - 500, Time: time, Src: 1 + r.Intn(2), Seq: 1 + r.Int63n(3)})
				}
				x.same(t)
				for range 4 {
					x.ranges(t, few[r.Intn(4)], grid*(r.Int63n(14)-1), grid*(r.Int63n(14)-1))
				}
				x.ranges(t, few[0], r.Int63n(12*grid)-grid, r.Int63n(12*grid))
			}
		}
	}
}

// orders: ways to go through the numbers below n, each once.
var orders = []struct {
	name string
	of   func(n int) []int
}{
	{"rising", func(n int) []int { return walk(n, 0, 1) }},
	{"falling", func(n int) []int { return walk(n, n-1, n-1) }},
	{"by leaps", func(n int) []int { return walk(n, 5, 1009) }},
	{"shuffled", func(n int) []int { return rand.New(rand.NewSource(4)).Perm(n) }},
	{"inward", func(n int) []int {
		l := walk(n, 0, 1)
		for i := range l {
			if i%2 == 1 {
				l[i] = n - l[i]
			}
		}
		return l
	}},
}

// walk goes from at on by step through the numbers below n, which has no divisor together with step.
func walk(n, at, step int) []int {
	var l []int
	for range n {
		l = append(l, at)
		at = (at + step) % n
	}
	return l
}

// TestManyPanes: of one series, in whatever order they come, with few gone from the begin now and then.
func TestManyPanes(t *testing.T) {
	const n = 3000
	for _, order := range orders {
		x := both(t, 10)
		for i, k := range order.of(n) {
			x.put(t, sample(few[0], int64(k%17), int64(10*k+1+k%10), 1))
			if i%500 == 250 {
				x.put(t, sample(few[1], int64(i), int64(10*k+1), 1))
			}
		}
		x.same(t)
		r := rand.New(rand.NewSource(9))
		for range 100 {
			x.ranges(t, few[0], 10*r.Int63n(n+10), 10*r.Int63n(n+10))
		}
		for before := int64(-5); before < 10*n+10; before += 10 * r.Int63n(200) {
			x.evict(t, before)
			x.ranges(t, few[0], 0, 10*n)
			x.ranges(t, few[0], max(0, before/10*10-20), 10*n)
			x.ranges(t, few[0], before/10*10+10, before/10*10+20)
			x.twin()
		}
		x.evict(t, 10*n)
		x.same(t)
		if t.Failed() {
			t.Fatal(order.name)
		}
	}
}

// TestEachPaneOfMany: each is there on its own, in whatever order they came.
func TestEachPaneOfMany(t *testing.T) {
	const n = 2000
	for _, order := range orders {
		s := open(t, 5)
		for _, k := range order.of(n) {
			puts(t, s, sample(few[0], int64(k), int64(5*k+5), 1))
		}
		for k := range int64(n) {
			tells(t, s, few[0], 5*k, 5*k+5, sample(few[0], k, 5*k+5, 1))
			if p, _ := s.Range(few[0], 5*k, 5*n); p.Count != n-k || p.Min != k || p.Max != n-1 {
				t.Fatalf("%s: %d: %+v", order.name, k, p)
			}
			if p, _ := s.Range(few[0], 0, 5*k+5); p.Count != k+1 || p.Min != 0 || p.Max != k || p.Last != k {
				t.Fatalf("%s: %d: %+v", order.name, k, p)
			}
		}
		if t.Failed() {
			t.Fatal(order.name)
		}
	}
}

// TestManySeries: in whatever order they come, gone from anywhere among the others, and come again.
func TestManySeries(t *testing.T) {
	const n = 1500
	name := func(k int) label.Set { return set(fmt.Sprintf("m=%04d", k)) }
	for _, order := range orders {
		s := open(t, 10)
		for i, k := range order.of(n) {
			puts(t, s, sample(name(k), int64(k), int64(10+10*(k*7%3)), int64(i+1)))
		}
		left := func(stays func(k int) bool) string {
			var l []label.Set
			for k := range n {
				if stays(k) {
					l = append(l, name(k))
				}
			}
			return told(l)
		}
		holds(t, s, n, left(func(int) bool { return true }))
		evicts(t, s, 10, n/3)
		holds(t, s, n-n/3, left(func(k int) bool { return k%3 > 0 }))
		evicts(t, s, 20, n/3)
		holds(t, s, n/3, left(func(k int) bool { return k*7%3 > 1 }))
		for k := range n {
			if k*7%3 > 1 {
				tells(t, s, name(k), 0, 30, sample(nil, int64(k), 30, int64(slices.Index(order.of(n), k)+1)))
			} else {
				tells(t, s, name(k), 0, 30)
			}
		}
		puts(t, s, sample(name(0), 1, 5, 1), sample(name(n+1), 1, 35, 1))
		holds(t, s, n/3+2, left(func(k int) bool { return k == 0 || k*7%3 > 1 })+label.Text(name(n+1)))
		evicts(t, s, 30, n/3+1)
		holds(t, s, 1, label.Text(name(n+1)))
		if t.Failed() {
			t.Fatal(order.name)
		}
	}
}

// TestSameAgain: the same calls in the same order answer the same.
func TestSameAgain(t *testing.T) {
	answers := func() string {
		r, s, out := rand.New(rand.NewSource(14)), open(t, 10), ""
		for range 300 {
			s.Put(sample(few[r.Intn(4)], r.Int63n(50), r.Int63n(200)-5, r.Int63n(4)))
			l, from, to := few[r.Intn(4)], 5*r.Int63n(30), 5*r.Int63n(40)
			p, e := s.Range(l, from, to)
			h, g := s.Hist(l, from, to)
			out += fmt.Sprint(p, e, h, g, s.Len(), s.Series())
			if r.Intn(9) == 0 {
				out += fmt.Sprint(s.Evict(r.Int63n(100)))
			}
		}
		return out
	}
	if answers() != answers() {
		t.Error("now so, now so")
	}
}
