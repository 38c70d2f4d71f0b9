package queue_test

import (
	"fmt"
	"math/rand"
	"testing"

	"belfry/api"
	"belfry/queue"
)

// plain is a queue as all that was ever Put, and how many of them went.
type plain struct {
	most, gone int
	all        []int
}

// waits tells those that wait.
func (p *plain) waits() []int { return p.all[p.gone:] }

// put tells whether there was room.
func (p *plain) put(x int) api.Errno {
	if len(p.waits()) == p.most {
		return api.ErrBusy
	}
	p.all = append(p.all, x)
	return api.OK
}

// take tells the eldest.
func (p *plain) take() (int, bool) {
	if len(p.waits()) == 0 {
		return 0, false
	}
	p.gone++
	return p.all[p.gone-1], true
}

// pair is a queue, and the plain one that it is held against.
type pair struct {
	q *queue.Queue[int]
	p plain
}

// both tells a pair in which nothing waits.
func both(t *testing.T, most int) *pair {
	return &pair{open[int](t, most), plain{most: most}}
}

func (b *pair) put(t *testing.T, x int) {
	t.Helper()
	if got, want := b.q.Put(x), b.p.put(x); got != want {
		t.Errorf("Put(%d): %v, want %v", x, got, want)
	}
}

func (b *pair) take(t *testing.T) {
	t.Helper()
	got, ok := b.q.Take()
	if want, there := b.p.take(); got != want || ok != there {
		t.Errorf("Take: %d, %v; want %d, %v", got, ok, want, there)
	}
}

func (b *pair) clear(t *testing.T) {
	t.Helper()
	n := len(b.p.waits())
	b.p.gone += n
	if got := b.q.Clear(); got != n {
		t.Errorf("Clear: %d, want %d", got, n)
	}
}

// spoil writes over a list that the queue told.
func (b *pair) spoil(*testing.T) {
	l := b.q.All()
	l = append(l, 3)
	clear(l[:cap(l)])
}

// same sees to it that both tell the same of all.
func (b *pair) same(t *testing.T) {
	t.Helper()
	tells(t, b.q, b.p.waits()...)
}

// TestAllShortWalks goes through all rows of few moves, and looks at all behind each.
func TestAllShortWalks(t *testing.T) {
	moves := []func(*pair, *testing.T){(*pair).take, (*pair).clear, (*pair).spoil}
	for x := range 3 {
		moves = append(moves, func(b *pair, t *testing.T) { b.put(t, x) })
	}
	var row []int
	var from func(most, left int)
	from = func(most, left int) {
		b := both(t, most)
		for _, m := range row {
			moves[m](b, t)
		}
		b.same(t)
		if t.Failed() {
			t.Fatalf("most %d, moves %v", most, row)
		}
		for m := 0; m < len(moves) && left > 0; m++ {
			row = append(row, m)
			from(most, left-1)
			row = row[:len(row)-1]
		}
	}
	for most := 1; most <= 3; most++ {
		from(most, 6)
	}
}

// TestLongWalks goes through rows of many moves of many kinds, the same ones each time.
func TestLongWalks(t *testing.T) {
	r := rand.New(rand.NewSource(1601))
	for i := range 80 {
		most := 1 + r.Intn(1+i)
		b := both(t, most)
		full := 1 + r.Intn(9) // how gladly it fills
		for range 600 {
			switch n := r.Intn(10); {
			case n < full:
				b.put(t, r.Intn(1000))
			case r.Intn(60) == 0:
				b.clear(t)
			case r.Intn(20) == 0:
				b.spoil(t)
			default:
				b.take(t)
			}
			b.same(t)
		}
		if t.Failed() {
			t.Fatalf("most %d, full %d", most, full)
		}
	}
}

// TestSameAgain: the same calls in the same order answer the same.
func TestSameAgain(t *testing.T) {
	answers := func() string {
		r, q, out := rand.New(rand.NewSource(16)), open[int](t, 9), ""
		for i := range 500 {
			out += q.Put(i).Error()
			if r.Intn(2) == 0 {
				x, ok := q.Take()
				out += fmt.Sprint(x, ok)
			}
			out += fmt.Sprint(q.All(), q.Len())
		}
		return out
	}
	if answers() != answers() {
		t.Error("now so, now so")
	}
}
