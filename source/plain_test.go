package source_test

import (
	"math/rand"
	"slices"
	"testing"

	"belfry/api"
	"belfry/line"
	"belfry/source"
)

// plain is a table as a plain list of all samples, each with how many Ticks there were since.
type plain struct {
	late, front int64
	idle        int
	all         []heard
}

// heard is a sample that was Put.
type heard struct {
	line.Sample
	ago int
}

// last tells of src the greatest place and time; false: there is none.
func (p *plain) last(src int) (seq, time int64, ok bool) {
	for _, h := range p.all {
		if h.Src == src {
			seq, time, ok = max(seq, h.Seq), max(time, h.Time), true
		}
	}
	return
}

// live tells who was heard in the last Ticks.
func (p *plain) live() []int {
	var l []int
	for _, h := range p.all {
		if h.ago < p.idle {
			l = append(l, h.Src)
		}
	}
	slices.Sort(l)
	return slices.Compact(l)
}

// look takes the frontier.
func (p *plain) look() {
	var far []int64
	for _, src := range p.live() {
		_, time, _ := p.last(src)
		far = append(far, time-p.late)
	}
	if len(far) > 0 {
		p.front = max(p.front, slices.Min(far))
	}
}

// put tells what is wrong with a sample that line.Check takes.
func (p *plain) put(s line.Sample) api.Errno {
	if seq, _, _ := p.last(s.Src); s.Seq <= seq {
		return api.ErrTwice
	}
	if s.Time < p.front {
		return api.ErrLate
	}
	p.all = append(p.all, heard{s, 0})
	p.look()
	return api.OK
}

// tick lets time go on.
func (p *plain) tick() {
	for i := range p.all {
		p.all[i].ago++
	}
	p.look()
}

// pair is a table, and the plain one that it is held against.
type pair struct {
	x *source.Table
	p plain
}

// both tells a pair that heard nothing.
func both(t *testing.T, late int64, idle int) *pair {
	return &pair{open(t, late, idle), plain{late: late, idle: idle}}
}

func (b *pair) put(t *testing.T, s line.Sample) {
	t.Helper()
	got, want := b.x.Put(s), b.p.put(s)
	if got != want {
		t.Errorf("%v: %v, want %v", s, got, want)
	}
}

func (b *pair) tick() {
	b.x.Tick()
	b.p.tick()
}

func (b *pair) raise(f int64) {
	b.x.Raise(f)
	b.p.front = max(b.p.front, f)
}

// twin goes on with another one, while the old one goes its own way.
func (b *pair) twin() {
	old := b.x
	b.x = old.Twin()
	old.Put(sample(3, mostSeq, most))
	old.Tick()
	old.Raise(most)
}

// same sees to it that both tell the same of all.
func (b *pair) same(t *testing.T) {
	t.Helper()
	tells(t, b.x, b.p.front, b.p.live()...)
	for src := range 5 {
		seq, time, _ := b.p.last(src)
		last(t, b.x, src, seq, time)
	}
}

// TestAllShortWalks goes through all rows of few moves, and looks at all behind each.
func TestAllShortWalks(t *testing.T) {
	type move func(b *pair)
	var moves []move
	for _, s := range []line.Sample{
		sample(1, 1, 0), sample(1, 2, 3), sample(1, 3, 1), sample(2, 1, 2), sample(2, 2, 4), sample(2, 3, 4), sample(3, 1, 1),
	} {
		moves = append(moves, func(b *pair) { b.put(t, s) })
	}
	moves = append(moves, (*pair).tick, (*pair).twin, func(b *pair) { b.raise(1) }, func(b *pair) { b.raise(3) })
	var row []int
	var from func(late int64, idle, left int)
	from = func(late int64, idle, left int) {
		b := both(t, late, idle)
		for _, m := range row {
			moves[m](b)
		}
		b.same(t)
		if t.Failed() {
			t.Fatalf("late %d, idle %d, moves %v", late, idle, row)
		}
		for m := 0; m < len(moves) && left > 0; m++ {
			row = append(row, m)
			from(late, idle, left-1)
			row = row[:len(row)-1]
		}
	}
	for late := range int64(3) {
		for idle := 1; idle <= 2; idle++ {
			from(late, idle, 4)
		}
	}
}

// TestLongWalks goes through rows of many moves of many kinds, the same ones each time.
func TestLongWalks(t *testing.T) {
	r := rand.New(rand.NewSource(1501))
	for range 60 {
		late, idle := r.Int63n(60), 1+r.Intn(6)
		b := both(t, late, idle)
		next := make([]int64, 5)
		for i := range int64(250) {
			switch r.Intn(20) {
			case 0, 1, 2, 3:
				b.tick()
			case 4:
				b.twin()
			case 5:
				b.raise(3*i + r.Int63n(100) - 120)
			default:
				src := 1 + r.Intn(4)
				next[src] += r.Int63n(4)
				b.put(t, sample(src, 1+next[src], max(0, 3*i+r.Int63n(100)-50)))
			}
			b.same(t)
		}
		if t.Failed() {
			t.Fatalf("late %d, idle %d", late, idle)
		}
	}
}

// TestSameAgain: the same calls in the same order answer the same.
func TestSameAgain(t *testing.T) {
	answers := func() string {
		r, x, out := rand.New(rand.NewSource(15)), open(t, 20, 3), ""
		for i := range int64(300) {
			out += x.Put(sample(r.Intn(18), 1+i/3+r.Int63n(3), i+r.Int63n(40))).Error()
			if r.Intn(9) == 0 {
				x.Tick()
			}
			out += all(x)
		}
		return out
	}
	if answers() != answers() {
		t.Error("now so, now so")
	}
}
