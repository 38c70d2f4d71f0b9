package journal_test

import (
	"fmt"
	"math/rand/v2"
	"strings"
	"testing"

	"belfry/api"
	"belfry/disk"
	"belfry/journal"
)

// The tests here are of P1102: what was told synced is there behind any cut; of what came behind just a front of the records.

// story is a log, and what must be on its disk: what was told synced, and what was added behind that.
type story struct {
	d      *disk.Disk
	l      *journal.Log
	synced []journal.Record
	behind []journal.Record
	fresh  bool // nothing was cut since l was told
	added  int
}

// begin tells a story of a disk with these records, and with some bytes that are none behind them.
func begin(t *testing.T, junk string, rs ...journal.Record) *story {
	d := disk.Of([]byte(written(rs...) + junk))
	return &story{d: d, l: opened(t, d), synced: rs, fresh: true}
}

// next tells a record that is like no other one near it.
func (s *story) next(n int) journal.Record {
	s.added++
	return rec(byte(s.added%255+1), strings.Repeat(string(rune('a'+s.added%26)), n))
}

// lies tells which records an Open of the disk would tell.
func (s *story) lies(t *testing.T) []journal.Record {
	t.Helper()
	twin := s.d.Twin()
	twin.Cut(0)
	twin.On()
	_, kept, e := journal.Open(twin)
	if e != api.OK {
		t.Fatalf("Open behind a cut: %v", e)
	}
	if len(kept) < len(s.synced) || told(kept[:len(s.synced)]) != told(s.synced) {
		t.Fatalf("behind a cut there is %s, where %s was told synced", told(kept), told(s.synced))
	}
	rs, _ := journal.Scan(s.d.Bytes())
	return rs
}

// cut looks at what is left, which is what is kept from now on.
func (s *story) cut(t *testing.T) {
	t.Helper()
	rs := s.lies(t)
	all := append(s.synced[:len(s.synced):len(s.synced)], s.behind...)
	if len(rs) > len(all) || told(rs) != told(all[:len(rs)]) {
		t.Fatalf("behind a cut there is %s; want %s, and a front of %s", told(rs), told(s.synced), told(s.behind))
	}
	s.synced, s.behind, s.fresh = rs, nil, false
}

// done looks at what a call told, and left.
func (s *story) done(t *testing.T, name string, e api.Errno, off bool) {
	t.Helper()
	if want := off || s.d.Off(); (e == api.ErrDown) != want || !want && e != api.OK {
		t.Fatalf("%s: %v, off %t, then %t", name, e, off, s.d.Off())
	}
	if e == api.ErrDown && !off {
		s.cut(t)
	}
	if e == api.OK {
		if rs := s.lies(t); told(rs) != told(s.synced)+told(s.behind) || s.fresh && s.l.Len() != len(rs) {
			t.Fatalf("%s: there is %s, %d; want %s and %s", name, told(rs), s.l.Len(), told(s.synced), told(s.behind))
		}
	}
}

// add lays a record there.
func (s *story) add(t *testing.T, n int) {
	t.Helper()
	r, off := s.next(n), s.d.Off()
	e := s.l.Add(r)
	if !off {
		s.behind = append(s.behind, r)
	}
	if e == api.OK && s.d.Tail() == 0 {
		s.synced, s.behind = append(s.synced[:len(s.synced):len(s.synced)], s.behind...), nil
	}
	s.done(t, "Add", e, off)
}

// sync lets all last.
func (s *story) sync(t *testing.T) {
	t.Helper()
	off := s.d.Off()
	e := s.l.Sync()
	if e == api.OK {
		s.synced, s.behind = append(s.synced[:len(s.synced):len(s.synced)], s.behind...), nil
	}
	s.done(t, "Sync", e, off)
}

// snap puts n records there, in the place of all.
func (s *story) snap(t *testing.T, n int) {
	t.Helper()
	var rs []journal.Record
	for i := range n {
		rs = append(rs, s.next(i))
	}
	off := s.d.Off()
	e := s.l.Snap(rs...)
	if e == api.OK {
		s.synced, s.behind, s.fresh = rs, nil, true
	}
	s.done(t, "Snap", e, off)
}

// open takes another log of the disk.
func (s *story) open(t *testing.T) {
	t.Helper()
	off := s.d.Off()
	l, rs, e := journal.Open(s.d)
	if e != api.OK {
		if l != nil || len(rs) != 0 {
			t.Fatalf("Open: %s beside %v", told(rs), e)
		}
		s.done(t, "Open", e, off)
		return
	}
	if told(rs) != told(s.synced)+told(s.behind) {
		t.Fatalf("Open: %s; want %s and %s", told(rs), told(s.synced), told(s.behind))
	}
	s.l, s.fresh = l, true
	s.done(t, "Open", e, off)
}

// TestCutsAnywhere cuts one history at each of its ops and at each byte.
func TestCutsAnywhere(t *testing.T) {
	for n := range 14 {
		for keep := -1; keep < 40; keep++ {
			for _, junk := range []string{"", "junk"} {
				s := begin(t, junk, rec('o', "ld"))
				s.d.Arm(n, keep)
				s.add(t, 3)
				s.add(t, 0)
				s.sync(t)
				s.add(t, 9)
				s.add(t, 1)
				s.add(t, 0)
				s.snap(t, 3)
				s.add(t, 2)
				s.sync(t)
				s.sync(t)
				s.add(t, 20)
				s.snap(t, 0)
				s.add(t, 4)
				s.d.Cut(keep)
				s.cut(t)
				s.d.On()
				s.open(t)
				s.add(t, 5)
				s.sync(t)
				s.d.Cut(keep)
				s.cut(t)
			}
		}
	}
}

// TestCutsWhileOpening cuts an Open that has bytes to take away, as often as one likes.
func TestCutsWhileOpening(t *testing.T) {
	d := disk.Of([]byte(written(rec('a', "x"), rec('b', "y")) + "\x05\x00cz"))
	for keep := -1; keep < 5; keep++ {
		d.On()
		d.Arm(1, keep)
		if l, rs, e := journal.Open(d); l != nil || len(rs) != 0 || e != api.ErrDown || d.Len() != 14 {
			t.Errorf("Open: %s, %v, %q", told(rs), e, d.Bytes())
		}
	}
	d.On()
	if _, rs, e := journal.Open(d); told(rs) != told([]journal.Record{rec('a', "x"), rec('b', "y")}) || e != api.OK || d.Len() != 10 {
		t.Errorf("Open: %s, %v, %q", told(rs), e, d.Bytes())
	}
}

// TestGoesOn: a log that goes on behind a cut, with the power on again, loses nothing of what it tells synced then, wherever the cut was.
func TestGoesOn(t *testing.T) {
	for armed := range 2 {
		for keep := range 20 {
			s := begin(t, "", rec('o', "ld"))
			s.add(t, 2)
			s.add(t, 3)
			if armed == 1 {
				s.d.Arm(1, keep)
				s.add(t, 4)
			} else {
				s.d.Cut(keep)
				s.cut(t)
			}
			s.d.On()
			ops := s.d.Ops()
			s.add(t, 5)
			if s.d.Ops() != ops+1 || s.l.Len() != len(s.synced)+len(s.behind) {
				t.Errorf("%d: %d ops, %d records", keep, s.d.Ops()-ops, s.l.Len())
			}
			s.add(t, 1)
			s.sync(t)
			s.d.Cut(0)
			s.cut(t)
			s.d.On()
			s.open(t)
		}
	}
}

// TestGoesOnArmed: the power goes again with the first Add behind a cut, which then changes nothing.
func TestGoesOnArmed(t *testing.T) {
	for keep := range 10 {
		s := begin(t, "", rec('o', "ld"))
		s.add(t, 2)
		s.sync(t)
		s.add(t, 5)
		s.d.Cut(4) // a part of what was added last
		s.cut(t)
		s.d.On()
		lies, n := string(s.d.Bytes()), s.l.Len()
		s.d.Arm(1, keep)
		s.add(t, 3)
		if string(s.d.Bytes()) != lies || s.l.Len() != n {
			t.Errorf("%d: %q, %d; want %q, %d", keep, s.d.Bytes(), s.l.Len(), lies, n)
		}
		s.d.On()
		s.add(t, 3)
		s.sync(t)
		s.d.Cut(0)
		s.cut(t)
	}
}

// TestTwoLogs: of two logs on one disk neither takes away what the other one added.
func TestTwoLogs(t *testing.T) {
	s := begin(t, "")
	one := s.l
	s.add(t, 1)
	s.open(t)
	two := s.l
	for range 5 {
		for _, l := range []*journal.Log{one, two, two, one} {
			s.l = l
			s.add(t, 2)
			if l.Len() != len(s.behind) {
				t.Errorf("%d records; want %d", l.Len(), len(s.behind))
			}
		}
	}
	if s.d.Tail() != s.d.Len() {
		t.Errorf("a tail of %d, of %d", s.d.Tail(), s.d.Len())
	}
	one.Snap(rec('n', "ew"))
	tells(t, "Add", two.Add(rec('m', "ore")), api.OK)
	if got, want := string(s.d.Bytes()), written(rec('n', "ew"), rec('m', "ore")); got != want || two.Len() != 2 {
		t.Errorf("%q, %d; want %q", got, two.Len(), want)
	}
}

// TestLongStories goes through rows of many calls and cuts, the same ones each time.
func TestLongStories(t *testing.T) {
	r := rand.New(rand.NewPCG(11, 1102))
	for range 300 {
		s := begin(t, "junk"[:r.IntN(5)], rec('o', strings.Repeat("o", r.IntN(9))))
		for range 100 {
			switch r.IntN(14) {
			default:
				s.add(t, r.IntN(6))
			case 0, 1:
				s.sync(t)
			case 2:
				s.snap(t, r.IntN(4))
			case 3:
				s.open(t)
			case 4:
				s.d.Arm(r.IntN(6), r.IntN(40)-1)
			case 5:
				s.d.Cut(r.IntN(40) - 1)
				s.cut(t)
			case 6, 7:
				s.d.On()
			case 8:
				s.d.On()
				s.open(t)
			}
		}
	}
}

// TestSameAgain: the same calls in the same order answer the same.
func TestSameAgain(t *testing.T) {
	answers := func() string {
		r, d, s := rand.New(rand.NewPCG(3, 1101)), disk.New(), ""
		l := opened(t, d)
		for range 500 {
			switch r.IntN(7) {
			case 0:
				s += fmt.Sprint(l.Sync())
			case 1:
				s += fmt.Sprint(l.Snap(rec(byte(r.IntN(4)), "x")))
			case 2:
				d.Cut(r.IntN(9))
			case 3:
				d.On()
			case 4:
				g, rs, e := journal.Open(d)
				if e == api.OK {
					l = g
				}
				s += fmt.Sprint(told(rs), e)
			default:
				s += fmt.Sprint(l.Add(rec(byte(r.IntN(9)), strings.Repeat("a", r.IntN(9)))))
			}
			s += fmt.Sprint(d.Bytes(), l.Len())
		}
		return s
	}
	if answers() != answers() {
		t.Error("now so, now so")
	}
}
