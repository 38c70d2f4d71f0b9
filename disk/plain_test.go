package disk_test

import (
	"fmt"
	"math/rand/v2"
	"testing"

	"belfry/api"
	"belfry/disk"
)

// plain is a disk as a plain list of what lies there, and of the ops to come.
type plain struct {
	kept, tail string
	off        bool
	coming     []bool // the ops from now on as far as they are known; true: the power goes
	keep       int
	ops        int
}

// op does one: ahead even if the power goes with it, behind only if it does not.
func (p *plain) op(ahead, behind func()) api.Errno {
	if p.off {
		return api.ErrDown
	}
	ahead()
	if len(p.coming) > 0 {
		goes := p.coming[0]
		p.coming = p.coming[1:]
		if goes {
			p.cut(p.keep)
			return api.ErrDown
		}
	}
	behind()
	p.ops++
	return api.OK
}

// cut takes the power off.
func (p *plain) cut(keep int) {
	for i, b := range []byte(p.tail) {
		if i < keep {
			p.kept += string([]byte{b})
		}
	}
	p.tail, p.off, p.coming = "", true, nil
}

// arm lets the power go with the n-th op.
func (p *plain) arm(n, keep int) {
	p.coming, p.keep = nil, keep
	for i := 1; i < n; i++ {
		p.coming = append(p.coming, false)
	}
	p.coming = append(p.coming, true)
}

// pair is a disk, and the plain one that it is held against.
type pair struct {
	d       *disk.Disk
	p       plain
	letters int // that were written, so that no two near each other are alike
}

// letter tells the next n letters.
func (x *pair) letter(n int) string {
	s := ""
	for range n {
		s += string([]byte{byte('a' + x.letters%26)})
		x.letters++
	}
	return s
}

// A move is a call with numbers; it tells what the disk and the plain one answered.
type move struct {
	name    string
	n, keep int
}

func (m move) do(x *pair) (got, want api.Errno) {
	none := func() {}
	switch m.name {
	case "Append":
		b := x.letter(m.n)
		return x.d.Append([]byte(b)), x.p.op(func() { x.p.tail += b }, none)
	case "Sync":
		return x.d.Sync(), x.p.op(none, func() { x.p.kept, x.p.tail = x.p.kept+x.p.tail, "" })
	case "Replace":
		b := x.letter(m.n)
		return x.d.Replace([]byte(b)), x.p.op(none, func() { x.p.kept, x.p.tail = b, "" })
	case "Arm":
		x.d.Arm(m.n, m.keep)
		x.p.arm(m.n, m.keep)
	case "Cut":
		x.d.Cut(m.keep)
		x.p.cut(m.keep)
	case "On":
		x.d.On()
		x.p.off = false
	case "Twin":
		old := x.d
		x.d = old.Twin()
		old.Append([]byte("!"))
		old.Cut(0)
		old.Arm(1, 0)
	}
	return api.OK, api.OK
}

// differs tells what of x is not as it ought to be.
func (x *pair) differs() string {
	b, all := string(x.d.Bytes()), x.p.kept+x.p.tail
	if b == all && x.d.Len() == len(all) && x.d.Tail() == len(x.p.tail) && x.d.Off() == x.p.off && x.d.Ops() == x.p.ops {
		return ""
	}
	return fmt.Sprintf("%q, %d, a tail of %d, off %t, %d ops; want %q and %q, off %t, %d ops", b, x.d.Len(), x.d.Tail(), x.d.Off(), x.d.Ops(), x.p.kept, x.p.tail, x.p.off, x.p.ops)
}

// walks does all moves on a disk of old, then some more that show what is armed, and looks at what each tells and, from the last of moves on, at all that lies there.
func walks(t *testing.T, old string, moves []move) {
	t.Helper()
	x := &pair{d: disk.Of([]byte(old)), p: plain{kept: old}}
	probe := []move{{"On", 0, 0}, {"Append", 3, 0}, {"Append", 2, 0}, {"Sync", 0, 0}, {"Append", 3, 0}, {"Replace", 1, 0}}
	for at, m := range append(moves[:len(moves):len(moves)], probe...) {
		if got, want := m.do(x); got != want {
			t.Fatalf("%v, then %v: %d: %v; want %v", moves, probe, at, got, want)
		}
		if at >= len(moves)-1 {
			if s := x.differs(); s != "" {
				t.Fatalf("%v, then %v: %d: %s", moves, probe, at, s)
			}
		}
	}
}

// TestAllShortWalks goes through all rows of few moves of some kinds.
func TestAllShortWalks(t *testing.T) {
	kinds := []move{
		{"Append", 0, 0}, {"Append", 2, 0}, {"Sync", 0, 0}, {"Replace", 3, 0}, {"Replace", 0, 0},
		{"Arm", 1, 1}, {"Arm", 2, 3}, {"Arm", 3, 0}, {"Arm", -1, 99},
		{"Cut", 0, -1}, {"Cut", 0, 1}, {"Cut", 0, 99}, {"On", 0, 0}, {"Twin", 0, 0},
	}
	var moves []move
	var from func(left int)
	from = func(left int) {
		walks(t, "OLD", moves)
		if left == 0 {
			return
		}
		for _, m := range kinds {
			moves = append(moves, m)
			from(left - 1)
			moves = moves[:len(moves)-1]
		}
	}
	from(4)
}

// TestLongWalks goes through rows of many moves, the same ones each time.
func TestLongWalks(t *testing.T) {
	r := rand.New(rand.NewPCG(10, 1001))
	for range 300 {
		x := &pair{d: disk.New()}
		var moves []move
		for range 300 {
			m := move{[]string{"Append", "Append", "Append", "Sync", "Replace", "Arm", "Cut", "On", "On", "Twin"}[r.IntN(10)], r.IntN(12) - 1, r.IntN(30) - 2}
			m.n = max(m.n, 0)
			if m.name == "Arm" {
				m.n--
			}
			moves = append(moves, m)
			got, want := m.do(x)
			if s := x.differs(); got != want || s != "" {
				t.Fatalf("%v: %v; want %v; %s", moves, got, want, s)
			}
		}
	}
}

// TestSameAgain: the same calls in the same order answer the same.
func TestSameAgain(t *testing.T) {
	told := func() string {
		r, x, s := rand.New(rand.NewPCG(3, 1001)), &pair{d: disk.New()}, ""
		for range 500 {
			m := move{[]string{"Append", "Sync", "Replace", "Arm", "Cut", "On", "On"}[r.IntN(7)], r.IntN(9), r.IntN(9)}
			e, _ := m.do(x)
			s += fmt.Sprint(e, x.d.Bytes(), x.d.Len(), x.d.Tail(), x.d.Off(), x.d.Ops())
		}
		return s
	}
	if told() != told() {
		t.Error("now so, now so")
	}
}
