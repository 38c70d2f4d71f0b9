package store_test

import (
	"fmt"
	"math"
	"slices"
	"strings"
	"testing"

	"belfry/api"
	"belfry/hist"
	"belfry/label"
	"belfry/line"
	"belfry/pane"
	"belfry/store"
	"belfry/wide"
)

// The tests here and in plain_test.go are of P1401, with P1 to P5, P7 and P8 as far as they bear on it.

const (
	most    = 1 << 42
	mostSeq = 1 << 53
	highest = math.MaxInt64
	lowest  = math.MinInt64
)

// set tells the labels that a text says, whether they may be or not.
func set(words ...string) label.Set {
	var s label.Set
	for _, w := range words {
		name, value, _ := strings.Cut(w, "=")
		s = append(s, label.Label{Name: name, Value: value})
	}
	return s
}

var web, db = set("job=web"), set("job=db")

// sample tells one of these numbers, its source the first.
func sample(l label.Set, value, time, seq int64) line.Sample {
	return line.Sample{Labels: l, Value: value, Time: time, Src: 1, Seq: seq}
}

// open tells a store of that grid, with these samples.
func open(t *testing.T, grid int64, l ...line.Sample) *store.Store {
	t.Helper()
	s, e := store.New(grid)
	if e != api.OK || s == nil {
		t.Fatalf("a grid of %d: %v", grid, e)
	}
	puts(t, s, l...)
	return s
}

// puts lays these samples into s.
func puts(t *testing.T, s *store.Store, l ...line.Sample) {
	t.Helper()
	for _, x := range l {
		if e := s.Put(x); e != api.OK {
			t.Fatalf("%v: %v", x, e)
		}
	}
}

// told tells the sets of a list as texts.
func told(l []label.Set) string {
	s := ""
	for _, one := range l {
		s += label.Text(one)
	}
	return s
}

// sizes tells a Hist of these values.
func sizes(values ...int64) hist.Hist {
	var h hist.Hist
	for _, v := range values {
		h.Put(v)
	}
	return h
}

// tells sees to it that Range and Hist tell what these samples come to, each time.
func tells(t *testing.T, s *store.Store, l label.Set, from, to int64, want ...line.Sample) {
	t.Helper()
	var values []int64
	for _, x := range want {
		values = append(values, x.Value)
	}
	for range 2 {
		if p, e := s.Range(l, from, to); e != api.OK || p != pane.Of(want...) {
			t.Errorf("Range of %v, %d to %d: %+v, %v; want %+v", l, from, to, p, e, pane.Of(want...))
		}
		if h, e := s.Hist(l, from, to); e != api.OK || h != sizes(values...) {
			t.Errorf("Hist of %v, %d to %d: %v, %v; want %v", l, from, to, h, e, sizes(values...))
		}
	}
}

// refuses sees to it that Range and Hist tell ErrArg, and zero values beside it.
func refuses(t *testing.T, s *store.Store, l label.Set, from, to int64) {
	t.Helper()
	if p, e := s.Range(l, from, to); e != api.ErrArg || p != (pane.Pane{}) {
		t.Errorf("Range of %v, %d to %d: %+v, %v", l, from, to, p, e)
	}
	if h, e := s.Hist(l, from, to); e != api.ErrArg || h != (hist.Hist{}) {
		t.Errorf("Hist of %v, %d to %d: %v, %v", l, from, to, h, e)
	}
}

// holds sees to it that s has so many samples, of these series.
func holds(t *testing.T, s *store.Store, n int, want string) {
	t.Helper()
	for range 2 {
		if got := told(s.Series()); s.Len() != n || got != want {
			t.Errorf("%d of %s; want %d of %s", s.Len(), got, n, want)
		}
	}
}

// evicts sees to it that so many go.
func evicts(t *testing.T, s *store.Store, before int64, want int) {
	t.Helper()
	if got := s.Evict(before); got != want {
		t.Errorf("Evict(%d): %d; want %d", before, got, want)
	}
}

func TestNew(t *testing.T) {
	for _, grid := range []int64{1, 2, 1000, most - 1, most} {
		holds(t, open(t, grid), 0, "")
	}
	for _, grid := range []int64{0, -1, -1000, -most, lowest, lowest + 1, most + 1, 2 * most, highest} {
		if s, e := store.New(grid); s != nil || e != api.ErrArg {
			t.Errorf("%d: %v, %v", grid, s, e)
		}
	}
}

// TestNewIsOnItsOwn: no two stores have anything together.
func TestNewIsOnItsOwn(t *testing.T) {
	a, b := open(t, 10), open(t, 10)
	puts(t, a, sample(web, 1, 5, 1))
	holds(t, a, 1, `{job="web"}`)
	holds(t, b, 0, "")
}

// wrong: what may be no sample, and what line.Check says of it.
var wrong = []struct {
	x    line.Sample
	want api.Errno
}{
	{sample(slices.Repeat(web, 17), 1, -1, 0), api.ErrLong},
	{sample(set("Job=web"), 1, -1, 0), api.ErrName},
	{sample(set("b=x", "a=x"), 1, -1, 0), api.ErrTwice},
	{sample(set("a=x", "a=x"), 1, 5, 1), api.ErrTwice},
	{sample(set("job="), 1, -1, 0), api.ErrArg},
	{sample(nil, 1, 5, 1), api.ErrName},
	{sample(nil, 1, -1, 0), api.ErrName},
	{sample(label.Set{}, 1, 5, 1), api.ErrName},
	{sample(web, 1, -1, 1), api.ErrArg},
	{sample(web, 1, lowest, 1), api.ErrArg},
	{sample(web, 1, most+1, 1), api.ErrArg},
	{sample(web, 1, highest, 1), api.ErrArg},
	{sample(web, 1, 5, 0), api.ErrArg},
	{sample(web, 1, 5, mostSeq+1), api.ErrArg},
	{line.Sample{Labels: web, Time: 5, Src: 0, Seq: 1}, api.ErrArg},
	{line.Sample{Labels: web, Time: 5, Src: 17, Seq: 1}, api.ErrArg},
	{line.Sample{}, api.ErrName},
}

// TestPutOfWhatMayNotBe: the error is line.Check's, and nothing is there that was not.
func TestPutOfWhatMayNotBe(t *testing.T) {
	in := sample(db, 4, 15, 1)
	for _, s := range []*store.Store{open(t, 10), open(t, 10, in)} {
		was, n := told(s.Series()), s.Len()
		for _, c := range wrong {
			if e := s.Put(c.x); e != c.want || e != line.Check(c.x) {
				t.Errorf("%v: %v; want %v", c.x, e, c.want)
			}
			holds(t, s, n, was)
			tells(t, s, c.x.Labels, 0, most/10*10+10)
		}
	}
}

// TestPutAtTheEnds of what a sample may be.
func TestPutAtTheEnds(t *testing.T) {
	for _, grid := range []int64{1, 3, 10, most/2 + 1, most - 1, most} {
		for _, value := range []int64{lowest, -1, 0, 1, highest} {
			for _, time := range []int64{1, most - 1, most} {
				x := line.Sample{Labels: web, Value: value, Time: time, Src: 16, Seq: mostSeq}
				s := open(t, grid, x)
				end := (time + grid - 1) / grid * grid
				tells(t, s, web, end-grid, end, x)
				tells(t, s, web, 0, end-grid)
				tells(t, s, web, end, end+grid)
				tells(t, s, web, 0, highest/grid*grid, x)
				evicts(t, s, end-1, 0)
				evicts(t, s, end, 1)
				holds(t, s, 0, "")
			}
		}
	}
}

// TestPanes: a sample lies in the pane of the multiple that is not below its time, at that one itself too.
func TestPanes(t *testing.T) {
	for _, c := range []struct{ time, end int64 }{{1, 10}, {2, 10}, {9, 10}, {10, 10}, {11, 20}, {19, 20}, {20, 20}, {21, 30}, {95, 100}, {100, 100}, {101, 110}} {
		x := sample(web, 7, c.time, 1)
		s := open(t, 10, x)
		for end := int64(10); end <= 120; end += 10 {
			if end == c.end {
				tells(t, s, web, end-10, end, x)
			} else {
				tells(t, s, web, end-10, end)
			}
		}
		evicts(t, s, c.end-1, 0)
		evicts(t, s, c.end, 1)
	}
}

// TestTimeNought: it lies in the pane of 0, which is never above from.
func TestTimeNought(t *testing.T) {
	for _, grid := range []int64{1, 10, most} {
		s := open(t, grid, sample(web, 7, 0, 1))
		holds(t, s, 1, `{job="web"}`)
		for _, to := range []int64{0, grid, 5 * grid, highest / grid * grid} {
			tells(t, s, web, 0, to)
		}
		evicts(t, s, -1, 0)
		holds(t, s.Twin(), 1, `{job="web"}`)
		evicts(t, s, 0, 1)
		holds(t, s, 0, "")
	}
}

// TestRange of several panes, of one series among others.
func TestRange(t *testing.T) {
	a, b, c, d := sample(web, 5, 11, 1), sample(web, -2, 20, 2), sample(web, 9, 20, 3), sample(web, 300, 41, 4)
	other := sample(db, 1000, 20, 1)
	s := open(t, 10, d, a, other, c, b)
	holds(t, s, 5, `{job="db"}{job="web"}`)
	tells(t, s, web, 0, 100, d, a, c, b)
	tells(t, s, web, 10, 20, a, c, b)
	tells(t, s, web, 10, 30, a, c, b)
	tells(t, s, web, 10, 40, a, c, b)
	tells(t, s, web, 10, 50, d, a, c, b)
	tells(t, s, web, 20, 50, d)
	tells(t, s, web, 40, 50, d)
	tells(t, s, web, 20, 40)
	tells(t, s, web, 50, 60)
	tells(t, s, db, 0, 100, other)
	tells(t, s, db, 20, 100)
	for at := int64(0); at <= 60; at += 10 {
		tells(t, s, web, at, at)
	}
	p, _ := s.Range(web, 0, 50)
	if want := (pane.Pane{Count: 4, Sum: wide.Of(312), Min: -2, Max: 300, Time: 41, Src: 1, Seq: 4, Last: 300}); p != want {
		t.Errorf("%+v; want %+v", p, want)
	}
	if h, _ := s.Hist(web, 0, 50); h != sizes(300, 9, 5, -2) || h[0] != 1 || h[3] != 1 || h[4] != 1 || h[9] != 1 || h.Count() != 4 {
		t.Errorf("%v", h)
	}
}

// TestRangeOfGreatSums: what 64 bits do not hold is exact.
func TestRangeOfGreatSums(t *testing.T) {
	for _, value := range []int64{highest, lowest} {
		s := open(t, 10)
		for i := range int64(300) {
			puts(t, s, sample(web, value, i+1, i+1))
		}
		p, e := s.Range(web, 0, 300)
		want := pane.Pane{Count: 300, Sum: wide.Mul(value, 300), Min: value, Max: value, Time: 300, Src: 1, Seq: 300, Last: value}
		if e != api.OK || p != want {
			t.Errorf("%+v, %v; want %+v", p, e, want)
		}
	}
}

// TestAsPutCame: of several alike the first that was Put is the last, whatever else was Put.
func TestAsPutCame(t *testing.T) {
	for _, values := range [][]int64{{3, 4}, {4, 3}, {0, 9}, {9, 0}, {lowest, highest}, {highest, lowest}, {1, 2, 3}, {3, 1, 2}, {2, 2, 1}} {
		s := open(t, 10, sample(web, 50, 12, 9), sample(web, 60, 3, 9))
		for _, v := range values {
			puts(t, s, sample(web, v, 15, 2), sample(db, 70+v/2, 15, 2), sample(web, 80, 14, 8))
		}
		puts(t, s, sample(web, 90, 15, 1), sample(web, 99, 8, 8))
		for _, of := range []*store.Store{s, s.Twin()} {
			for _, r := range [][2]int64{{10, 20}, {0, 20}, {0, 50}, {10, 50}} {
				p, e := of.Range(web, r[0], r[1])
				if e != api.OK || p.Last != values[0] || p.Time != 15 || p.Seq != 2 {
					t.Errorf("%v, %v: %+v, %v", values, r, p, e)
				}
			}
		}
	}
}

// TestOrderDoesNotMatter of samples of which no two are alike, but to what is last of those that are.
func TestOrderDoesNotMatter(t *testing.T) {
	l := []line.Sample{sample(web, 5, 11, 1), sample(web, -2, 20, 2), sample(db, 9, 20, 2), sample(web, 1, 21, 3), sample(db, 3, 0, 1)}
	for i := range l {
		s := open(t, 10, slices.Concat(l[i:], l[:i])...)
		holds(t, s, 5, `{job="db"}{job="web"}`)
		tells(t, s, web, 0, 30, l[0], l[1], l[3])
		tells(t, s, web, 10, 20, l[0], l[1])
		tells(t, s, db, 0, 30, l[2])
	}
}

func TestRangeOfWrongEnds(t *testing.T) {
	s := open(t, 10, sample(web, 5, 11, 1), sample(web, 6, 31, 2), sample(web, 7, 0, 3))
	for _, l := range []label.Set{web, db, nil, set("B=x", "A=")} {
		for _, r := range [][2]int64{
			{5, 30}, {1, 30}, {9, 30}, {11, 30}, {0, 31}, {0, 29}, {0, 35}, {5, 35}, {1, 1}, {15, 15},
			{30, 20}, {10, 0}, {20, 10}, {highest / 10 * 10, 0},
			{-10, 20}, {-10, -10}, {-20, -10}, {0, -10}, {-10, 0}, {-1, 20}, {0, -1}, {-5, -5},
			{lowest, 20}, {lowest, lowest}, {0, lowest}, {lowest / 10 * 10, 0}, {0, highest}, {highest, highest}, {lowest, highest},
		} {
			refuses(t, s, l, r[0], r[1])
		}
	}
	holds(t, s, 3, `{job="web"}`)
}

// TestRangeBeyondTimes: a multiple above MaxTime is one all the same.
func TestRangeBeyondTimes(t *testing.T) {
	x := sample(web, 5, most, 1)
	s := open(t, 10, x)
	tells(t, s, web, 0, most/10*10)
	tells(t, s, web, 0, most/10*10+10, x)
	tells(t, s, web, 0, highest/10*10, x)
	tells(t, s, web, most/10*10+10, highest/10*10)
	tells(t, s, web, highest/10*10, highest/10*10)
	refuses(t, s, web, 0, most)
	one := open(t, 1, x)
	tells(t, one, web, most-1, most, x)
	tells(t, one, web, most, highest)
	tells(t, one, web, 0, highest, x)
	refuses(t, one, web, highest, highest-1)
	refuses(t, one, web, -1, most)
}

// TestNoSeries: what was not put has no samples, nor has what is no set, even if it is told as one is.
func TestNoSeries(t *testing.T) {
	s := open(t, 10, sample(set("a=x", "b=y"), 5, 11, 1), sample(set("a=x"), 6, 11, 2))
	for _, l := range []label.Set{
		nil, {}, web, set("a=y"), set("b=y"), set("b=x"), set("a=x", "b=y", "c=z"), set("b=y", "a=x"), set("a=x", "a=x"), set("A=x"), set("a="),
		{{Name: `a="x",b`, Value: "y"}}, {{Name: "", Value: ""}}, slices.Repeat(web, 20), {{Name: "a", Value: "x\x00"}},
	} {
		tells(t, s, l, 0, 100)
	}
	tells(t, s, set("a=x"), 0, 100, sample(nil, 6, 11, 2))
	tells(t, s, set("a=x", "b=y"), 0, 100, sample(nil, 5, 11, 1))
}

// TestSeries: by label.Compare, each once, whatever the order in which they came.
func TestSeries(t *testing.T) {
	rising := []label.Set{
		set("_=x"), set("a= "), set("a=!"), set("a=0"), set("a=10"), set("a=2"), set("a=A"),
		set(`a=\`), set(`a="`), // told as `\\` and `\"`, of which the second is the less
		set("a=a"), set("a=x", "b=y"), set("a=x", "c=a"), set("a=x"), set("a=xy"), set("a=~"), set("aa=a"), set("b=0"), set("z=z"),
	}
	slices.SortFunc(rising, label.Compare)
	for i := range rising {
		s := open(t, 10)
		for k := range 3 * len(rising) {
			puts(t, s, sample(rising[(i+k*(2*i+1))%len(rising)], 1, int64(k), 1), sample(rising[k%len(rising)], 1, 5, 1))
		}
		holds(t, s, 6*len(rising), told(rising))
	}
	s := open(t, 10, sample(set("a=x"), 1, 1, 1), sample(set("a=x", "b=y"), 1, 1, 2), sample(set("a=10"), 1, 1, 3), sample(set("a=2"), 1, 1, 4))
	holds(t, s, 4, `{a="10"}{a="2"}{a="x",b="y"}{a="x"}`)
}

// TestLabelsAtTheEnds: as many labels as may be, each as long as may be.
func TestLabelsAtTheEnds(t *testing.T) {
	var long label.Set
	for i := range api.MaxLabels {
		long = append(long, label.Label{Name: string([]byte{byte('a' + i)}) + strings.Repeat("n", api.MaxName-1), Value: strings.Repeat(`"`, api.MaxValue)})
	}
	x := sample(long, 5, 11, 1)
	s := open(t, 10, x)
	holds(t, s, 1, label.Text(long))
	tells(t, s, long, 10, 20, x)
	tells(t, s, long[1:], 10, 20)
}

func TestLen(t *testing.T) {
	s := open(t, 10)
	for i := range int64(50) {
		puts(t, s, sample(web, 1, i%7, 1), sample(db, 1, 500-i, 1)) // alike ones count each
		if s.Len() != int(2*i+2) {
			t.Fatalf("%d: %d", i, s.Len())
		}
	}
}

func TestEvict(t *testing.T) {
	nought, a, b, c := sample(db, 1, 0, 1), sample(web, 2, 1, 1), sample(web, 3, 10, 2), sample(web, 4, 11, 3)
	d, f := sample(db, 5, 20, 2), sample(web, 6, 95, 4)
	s := open(t, 10, f, d, c, b, a, nought)
	evicts(t, s, -1, 0)
	evicts(t, s, lowest, 0)
	holds(t, s, 6, `{job="db"}{job="web"}`)
	evicts(t, s, 0, 1) // the pane of 0 is not above it
	evicts(t, s, 0, 0)
	holds(t, s, 5, `{job="db"}{job="web"}`)
	evicts(t, s, 9, 0) // a pane goes as a whole, and this one is above it
	tells(t, s, web, 0, 100, f, c, b, a)
	evicts(t, s, 10, 2)
	tells(t, s, web, 0, 10)
	tells(t, s, web, 0, 100, f, c)
	holds(t, s, 3, `{job="db"}{job="web"}`)
	evicts(t, s, 19, 0)
	evicts(t, s, 25, 2)
	tells(t, s, db, 0, 100)
	tells(t, s, web, 0, 100, f)
	holds(t, s, 1, `{job="web"}`) // a series without any is none
	evicts(t, s, 99, 0)
	evicts(t, s, highest, 1)
	holds(t, s, 0, "")
	evicts(t, s, highest, 0)
}

// TestPutBehindEvict: what is put where panes went is there anew, alone.
func TestPutBehindEvict(t *testing.T) {
	old, x, later := sample(web, 7, 15, 1), sample(web, 5, 15, 1), sample(db, 3, 11, 1)
	s := open(t, 10, old)
	evicts(t, s, 20, 1)
	tells(t, s, web, 0, 20)
	puts(t, s, x)
	holds(t, s, 1, `{job="web"}`)
	tells(t, s, web, 10, 20, x)
	puts(t, s, later)
	holds(t, s, 2, `{job="db"}{job="web"}`)
	evicts(t, s, 20, 2)
	holds(t, s, 0, "")
}

func TestTwin(t *testing.T) {
	a, b, c, d := sample(web, 5, 11, 1), sample(db, 6, 12, 2), sample(web, 7, 12, 3), sample(set("z=z"), 8, 25, 4)
	for _, turned := range []bool{false, true} {
		s := open(t, 10, a, b)
		twin := s.Twin()
		if turned {
			s, twin = twin, s
		}
		puts(t, s, c, d)
		holds(t, twin, 2, `{job="db"}{job="web"}`)
		tells(t, twin, web, 0, 30, a)
		tells(t, twin, d.Labels, 0, 30)
		evicts(t, twin, 20, 2)
		holds(t, twin, 0, "")
		holds(t, s, 4, `{job="db"}{job="web"}{z="z"}`)
		tells(t, s, web, 10, 20, a, c)
		tells(t, s, db, 10, 20, b)
		puts(t, twin, d)
		refuses(t, twin, web, 0, 15) // the grid is the same
		tells(t, twin, d.Labels, 20, 30, d)
		evicts(t, s, highest, 4)
		holds(t, twin, 1, `{z="z"}`)
	}
	holds(t, open(t, 7).Twin(), 0, "")
}

// TestTwinOfTwins: each goes its own way.
func TestTwinOfTwins(t *testing.T) {
	s := open(t, 10)
	var all []*store.Store
	for i := range int64(5) {
		all = append(all, s)
		s = s.Twin()
		puts(t, s, sample(web, i, 10*i+1, 1))
	}
	for i, old := range all {
		if old.Len() != i {
			t.Errorf("%d: %d", i, old.Len())
		}
	}
	holds(t, s, 5, `{job="web"}`)
}

// TestHandedInIsNotKept: nor is it changed, nor the room behind it.
func TestHandedInIsNotKept(t *testing.T) {
	room := append(set("a=x", "b=y"), set("c=z", "d=z")...)
	l := room[:2]
	s := open(t, 10)
	puts(t, s, sample(l, 5, 11, 1))
	tells(t, s, l, 0, 20, sample(nil, 5, 11, 1))
	if fmt.Sprint(room) != "[{a x} {b y} {c z} {d z}]" {
		t.Errorf("changed: %v", room)
	}
	l[0].Value, l[1].Name = "q", "q"
	holds(t, s, 1, `{a="x",b="y"}`)
	tells(t, s, set("a=x", "b=y"), 0, 20, sample(nil, 5, 11, 1))
	puts(t, s, sample(set("a=x", "b=y"), 6, 12, 2))
	holds(t, s, 2, `{a="x",b="y"}`)
}

// TestAnswersAreNew: what is done to one is not seen in another, in the store or in its twin.
func TestAnswersAreNew(t *testing.T) {
	s := open(t, 10, sample(set("a=x", "b=y"), 5, 11, 1), sample(set("c=x", "d=y"), 5, 11, 1), sample(web, 5, 11, 1))
	twin, want := s.Twin(), `{a="x",b="y"}{c="x",d="y"}{job="web"}`
	l := s.Series()
	for i, one := range l {
		behind := append(one, label.Label{Name: "q", Value: "q"})
		behind[0].Value = "q"
		one = one[:cap(one)]
		for k := range one {
			one[k] = label.Label{Name: "w", Value: "w"}
		}
		for k, other := range l {
			if k > i && strings.Contains(label.Text(other), "w=") {
				t.Errorf("%d and %d share", i, k)
			}
		}
	}
	clear(l[:cap(l)])
	holds(t, s, 3, want)
	holds(t, twin, 3, want)
	holds(t, s.Twin(), 3, want)
}

// TestWhatMayNotBe: of a Store that New did not tell, and of numbers at all ends, only that each call ends and panics never.
func TestWhatMayNotBe(t *testing.T) {
	ends := []int64{lowest, lowest + 1, -most, -1, 0, 1, 10, most, most + 1, highest - 1, highest}
	for _, s := range []*store.Store{{}, new(store.Store).Twin(), open(t, 1), open(t, 10), open(t, most)} {
		for _, c := range wrong {
			s.Put(c.x)
		}
		for _, time := range ends {
			s.Put(sample(web, time, time, 1))
			for _, to := range ends {
				for _, l := range []label.Set{web, nil, set("=", "=")} {
					s.Range(l, time, to)
					s.Hist(l, time, to)
				}
			}
		}
		s.Series()
		s.Twin().Evict(highest)
		for _, before := range ends {
			s.Evict(before)
		}
		if s.Len() != 0 {
			t.Errorf("%d are left", s.Len())
		}
	}
}
