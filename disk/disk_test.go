package disk_test

import (
	"bytes"
	"errors"
	"math"
	"strings"
	"testing"

	"belfry/api"
	"belfry/disk"
)

// The tests here and in plain_test.go are of P1001, with P1 to P5, P7 and P9 as far as they bear on it.

// is sees to it that d has these bytes, the last ones of them as its tail, and has done so many ops.
func is(t *testing.T, what string, d *disk.Disk, kept, tail string, ops int, off bool) {
	t.Helper()
	if got := string(d.Bytes()); got != kept+tail || d.Len() != len(got) || d.Tail() != len(tail) {
		t.Errorf("%s: %.99q, %d, a tail of %d; want %.99q and %.99q", what, got, d.Len(), d.Tail(), kept, tail)
	}
	if d.Ops() != ops || d.Off() != off {
		t.Errorf("%s: %d ops, off %t; want %d, %t", what, d.Ops(), d.Off(), ops, off)
	}
}

// tells sees to it that e was told.
func tells(t *testing.T, what string, got, want api.Errno) {
	t.Helper()
	if got != want {
		t.Errorf("%s: %v; want %v", what, got, want)
	}
}

// with tells a disk of what is kept and of a tail, and with no ops but that of the tail.
func with(kept, tail string) *disk.Disk {
	d := disk.Of([]byte(kept))
	d.Append([]byte(tail))
	return d
}

// numbers: how many, or where, at the ends and around those that the tests have bytes for.
var numbers = []int{math.MinInt, math.MinInt + 1, -1 << 32, -2, -1, 0, 1, 2, 3, 4, 5, 1 << 32, math.MaxInt - 1, math.MaxInt}

// all: each byte that there is.
func all() string {
	var b []byte
	for i := range 256 {
		b = append(b, byte(i))
	}
	return string(b)
}

func TestNewAndOf(t *testing.T) {
	is(t, "New", disk.New(), "", "", 0, false)
	is(t, "Of nil", disk.Of(nil), "", "", 0, false)
	is(t, "Of none", disk.Of([]byte{}), "", "", 0, false)
	for _, kept := range []string{"a", "old", "\x00", "\xff\n", all(), strings.Repeat("k", 70000)} {
		d := disk.Of([]byte(kept))
		is(t, "Of", d, kept, "", 0, false)
		d.Cut(0)
		is(t, "what Of has is kept", d, kept, "", 0, true)
	}
}

func TestAppend(t *testing.T) {
	d := disk.Of([]byte("old"))
	tail := ""
	for i, b := range []string{"a", "bc", "", "\x00", "\xff", "", "abc", all(), strings.Repeat("t", 70000), "end"} {
		tells(t, "Append", d.Append([]byte(b)), api.OK)
		tail += b
		is(t, "Append", d, "old", tail, i+1, false)
	}
	d = disk.New()
	tells(t, "Append", d.Append(nil), api.OK)
	is(t, "Append of none is an op", d, "", "", 1, false)
}

func TestSync(t *testing.T) {
	d := with("old", "new")
	tells(t, "Sync", d.Sync(), api.OK)
	is(t, "Sync", d, "oldnew", "", 2, false)
	tells(t, "Sync", d.Sync(), api.OK)
	is(t, "Sync of no tail is an op", d, "oldnew", "", 3, false)
	tells(t, "Append", d.Append([]byte("er")), api.OK)
	is(t, "a tail behind a Sync", d, "oldnew", "er", 4, false)
	d.Cut(0)
	is(t, "what was synced is kept", d, "oldnew", "", 4, true)
	d = disk.New()
	tells(t, "Sync", d.Sync(), api.OK)
	is(t, "Sync of nothing", d, "", "", 1, false)
}

func TestReplace(t *testing.T) {
	for _, kept := range []string{"", "a", "old", strings.Repeat("k", 70000)} {
		for _, tail := range []string{"", "b", "tail", strings.Repeat("t", 70000)} {
			for _, b := range []string{"", "x", "xyz", all(), strings.Repeat("r", 70000)} {
				d := with(kept, tail)
				tells(t, "Replace", d.Replace([]byte(b)), api.OK)
				is(t, "Replace", d, b, "", 2, false)
				tells(t, "Append", d.Append([]byte("++")), api.OK)
				is(t, "a tail behind a Replace", d, b, "++", 3, false)
				d.Cut(0)
				is(t, "what was replaced by is kept", d, b, "", 3, true)
			}
		}
	}
	d := with("old", "new")
	tells(t, "Replace", d.Replace(nil), api.OK)
	is(t, "Replace by none", d, "", "", 2, false)
}

// cutTo tells n, but 0 if it is below, and most if it is above.
func cutTo(n, most int) int {
	switch {
	case n < 0:
		return 0
	case n > most:
		return most
	}
	return n
}

func TestCut(t *testing.T) {
	for _, kept := range []string{"", "k", "kept"} {
		for _, tail := range []string{"", "a", "ab", "abc", "abcd"} {
			for _, keep := range numbers {
				d := with(kept, tail)
				d.Cut(keep)
				left := kept + tail[:cutTo(keep, len(tail))]
				is(t, "Cut", d, left, "", 1, true)
				for _, again := range numbers {
					d.Cut(again)
					is(t, "a second Cut", d, left, "", 1, true)
				}
				d.On()
				is(t, "On", d, left, "", 1, false)
				tells(t, "Append", d.Append([]byte("+")), api.OK)
				is(t, "Append behind a Cut", d, left, "+", 2, false)
				tells(t, "Sync", d.Sync(), api.OK)
				is(t, "what is lost stays so", d, left+"+", "", 3, false)
			}
		}
	}
}

func TestDown(t *testing.T) {
	d := with("old", "tail")
	d.Cut(2)
	for range 3 {
		for _, b := range []string{"", "a", "new"} {
			tells(t, "Append", d.Append([]byte(b)), api.ErrDown)
			is(t, "Append while it is off", d, "oldta", "", 1, true)
			tells(t, "Replace", d.Replace([]byte(b)), api.ErrDown)
			is(t, "Replace while it is off", d, "oldta", "", 1, true)
		}
		tells(t, "Sync", d.Sync(), api.ErrDown)
		is(t, "Sync while it is off", d, "oldta", "", 1, true)
	}
	if !errors.Is(d.Sync(), api.ErrDown) {
		t.Error("Sync: no error of api")
	}
}

func TestOn(t *testing.T) {
	d := with("old", "tail")
	d.On()
	is(t, "On while it is on", d, "old", "tail", 1, false)
	d.Arm(2, 1)
	d.On()
	tells(t, "Append", d.Append(nil), api.OK)
	d.On()
	tells(t, "On lets be what is armed", d.Sync(), api.ErrDown)
	is(t, "Sync, armed", d, "oldt", "", 2, true)
	d.On()
	d.On()
	is(t, "On, twice", d, "oldt", "", 2, false)
	for range 5 {
		tells(t, "nothing is armed any more", d.Append([]byte("a")), api.OK)
	}
	is(t, "Append", d, "oldt", "aaaaa", 7, false)
}

// ops: the three that are counted, of some bytes each.
var ops = []struct {
	name   string
	do     func(d *disk.Disk) api.Errno
	behind string // what it lays behind the tail, even if the power goes with it
}{
	{"Append", func(d *disk.Disk) api.Errno { return d.Append([]byte("cd")) }, "cd"},
	{"Append of none", func(d *disk.Disk) api.Errno { return d.Append(nil) }, ""},
	{"Sync", func(d *disk.Disk) api.Errno { return d.Sync() }, ""},
	{"Replace", func(d *disk.Disk) api.Errno { return d.Replace([]byte("new")) }, ""},
	{"Replace by none", func(d *disk.Disk) api.Errno { return d.Replace(nil) }, ""},
}

func TestArmedOp(t *testing.T) {
	for _, op := range ops {
		for _, tail := range []string{"", "a", "ab"} {
			for _, keep := range numbers {
				for _, n := range numbers {
					if n > 1 {
						continue
					}
					d := with("old", tail)
					d.Arm(n, keep)
					is(t, "Arm alone", d, "old", tail, 1, false)
					tells(t, op.name+", armed", op.do(d), api.ErrDown)
					lies := tail + op.behind
					left := "old" + lies[:cutTo(keep, len(lies))]
					is(t, op.name+", armed", d, left, "", 1, true)
					tells(t, op.name+", off", op.do(d), api.ErrDown)
					is(t, op.name+", off", d, left, "", 1, true)
					d.On()
					is(t, "On", d, left, "", 1, false)
					tells(t, op.name+" is armed once", op.do(d), api.OK)
					tells(t, op.name+" is armed once", op.do(d), api.OK)
				}
			}
		}
	}
}

// TestArmCounts goes through which op is the armed one, by all three kinds of ops ahead of it.
func TestArmCounts(t *testing.T) {
	for n := 1; n <= 6; n++ {
		for from := range ops {
			d := disk.New()
			d.Arm(n, 0)
			for i := 1; i < n; i++ {
				op := ops[(from+i)%len(ops)]
				tells(t, op.name+", ahead of the armed one", op.do(d), api.OK)
			}
			if d.Off() || d.Ops() != n-1 {
				t.Errorf("%d ops of %d: off %t, %d", n-1, n, d.Off(), d.Ops())
			}
			op := ops[from]
			tells(t, op.name+", the armed one", op.do(d), api.ErrDown)
			if !d.Off() || d.Ops() != n-1 || d.Tail() != 0 {
				t.Errorf("%d ops of %d: off %t, %d, a tail of %d", n, n, d.Off(), d.Ops(), d.Tail())
			}
		}
	}
	for _, n := range []int{200, 1 << 32, math.MaxInt} {
		d := disk.New()
		d.Arm(n, 0)
		for range 199 {
			tells(t, "far ahead of the armed one", d.Append([]byte("a")), api.OK)
		}
		is(t, "far ahead of the armed one", d, "", strings.Repeat("a", 199), 199, false)
		if e := d.Sync(); e == api.OK && n == 200 || e != api.OK && n > 200 {
			t.Errorf("armed %d: the 200th: %v", n, e)
		}
	}
}

// TestArmAgain: what was armed ahead is no more, be it nearer or farther; it is counted from the last Arm on.
func TestArmAgain(t *testing.T) {
	for _, first := range numbers {
		for n := 1; n <= 4; n++ {
			d := with("old", "tail")
			d.Arm(first, 4)
			d.Arm(3, 3)
			d.Append([]byte("1"))
			d.Arm(n, 2)
			for i := 1; i < n; i++ {
				tells(t, "Append", d.Append([]byte("2")), api.OK)
			}
			tells(t, "Sync", d.Sync(), api.ErrDown)
			is(t, "armed thrice", d, "oldta", "", n+1, true)
		}
	}
}

func TestWhatArms(t *testing.T) {
	d := with("old", "ab")
	d.Arm(1, 0)
	for range 3 {
		d.Bytes()
		d.Len()
		d.Tail()
		d.Off()
		d.Ops()
		d.On()
		d.Twin().Sync()
	}
	is(t, "what is no op does not count", d, "old", "ab", 1, false)
	d.Cut(1)
	d.On()
	tells(t, "a Cut disarms", d.Append([]byte("c")), api.OK)
	is(t, "a Cut disarms", d, "olda", "c", 2, false)

	d.Cut(0)
	d.Arm(2, 1)
	for range 3 {
		tells(t, "Append", d.Append([]byte("x")), api.ErrDown)
		tells(t, "Sync", d.Sync(), api.ErrDown)
		tells(t, "Replace", d.Replace([]byte("x")), api.ErrDown)
	}
	d.On()
	tells(t, "what is refused does not count", d.Append([]byte("d")), api.OK)
	tells(t, "armed while it was off", d.Append([]byte("e")), api.ErrDown)
	is(t, "armed while it was off", d, "oldad", "", 3, true)

	d.Arm(1, 9)
	d.Cut(9)
	d.On()
	tells(t, "a Cut disarms, off or not", d.Append([]byte("f")), api.OK)
	tells(t, "a Cut disarms, off or not", d.Sync(), api.OK)
	is(t, "a Cut disarms, off or not", d, "oldadf", "", 5, false)
}

func TestOps(t *testing.T) {
	d := disk.New()
	for i, op := range ops {
		tells(t, op.name, op.do(d), api.OK)
		if d.Ops() != i+1 {
			t.Errorf("%s: %d ops; want %d", op.name, d.Ops(), i+1)
		}
	}
	d.Arm(1, 9)
	for _, op := range ops {
		tells(t, op.name, op.do(d), api.ErrDown)
	}
	d.On()
	d.Cut(9)
	d.On()
	if d.Ops() != len(ops) {
		t.Errorf("%d ops told OK; want %d", d.Ops(), len(ops))
	}
}

// TestTwin: a twin is alike in all, in what is armed, too, and neither hears of the other any more.
func TestTwin(t *testing.T) {
	d := with("old", "ab")
	d.Arm(2, 3)
	w := d.Twin()
	is(t, "the twin", w, "old", "ab", 1, false)
	tells(t, "the twin's Append", w.Append([]byte("w")), api.OK)
	is(t, "the twin", w, "old", "abw", 2, false)
	is(t, "beside its twin", d, "old", "ab", 1, false)
	tells(t, "Append", d.Append([]byte("d")), api.OK)
	is(t, "beside its twin", d, "old", "abd", 2, false)
	is(t, "the twin", w, "old", "abw", 2, false)
	tells(t, "the twin's Append", w.Append([]byte("v")), api.ErrDown)
	is(t, "the twin, armed", w, "oldabw", "", 2, true)
	is(t, "beside its twin", d, "old", "abd", 2, false)
	tells(t, "Sync", d.Sync(), api.ErrDown)
	is(t, "armed beside its twin", d, "oldabd", "", 2, true)
	v := w.Twin()
	is(t, "the twin's twin", v, "oldabw", "", 2, true)
	v.On()
	is(t, "the twin's twin", v, "oldabw", "", 2, false)
	is(t, "the twin", w, "oldabw", "", 2, true)
	tells(t, "the twin's twin", v.Replace([]byte("new")), api.OK)
	is(t, "the twin's twin", v, "new", "", 3, false)
	is(t, "the twin", w, "oldabw", "", 2, true)
	w.Arm(1, 0)
	v = w.Twin()
	w.On()
	v.On()
	w.Cut(0)
	w.On()
	tells(t, "disarmed beside its twin", w.Sync(), api.OK)
	tells(t, "the twin, armed while it was off", v.Sync(), api.ErrDown)
}

// TestTwinsShareNoRoom lets many twins of one grow, by turns, so that no two may write behind the same bytes.
func TestTwinsShareNoRoom(t *testing.T) {
	for n := range 70 {
		d := with("old", strings.Repeat("t", n))
		twins := []*disk.Disk{d, d.Twin(), d.Twin()}
		for _, b := range []string{"a", "bb", "ccc"} {
			for i, w := range twins {
				w.Append([]byte(strings.Repeat(string(rune('0'+i)), len(b))))
			}
		}
		for i, w := range twins {
			is(t, "a twin", w, "old", strings.Repeat("t", n)+strings.Repeat(string(rune('0'+i)), 6), 4, false)
		}
	}
}

// TestHandedIn: what is handed in, its spare room too, is not changed, not kept.
func TestHandedIn(t *testing.T) {
	for n := range 40 {
		room := []byte(all())
		b := room[100 : 100+n]
		text := string(b)
		d := disk.Of(b)
		o := disk.New()
		o.Append(b)
		r := disk.Of([]byte("old"))
		r.Replace(b)
		e := disk.New()
		e.Append(b[:0])
		for _, x := range []*disk.Disk{d, o, r, e} {
			x.Append([]byte("tail"))
		}
		if string(room) != all() {
			t.Fatalf("%d bytes: what was handed in is changed", n)
		}
		for i := range room {
			room[i] = '!'
		}
		is(t, "Of", d, text, "tail", 1, false)
		is(t, "Append", o, "", text+"tail", 2, false)
		is(t, "Replace", r, text, "tail", 2, false)
		is(t, "Append of none", e, "", "tail", 2, false)
		if strings.Trim(string(room), "!") != "" {
			t.Fatalf("%d bytes: what was handed in is changed later", n)
		}
	}
}

// TestAnswers: what is told, its spare room too, is nobody else's.
func TestAnswers(t *testing.T) {
	for n := range 40 {
		text := strings.Repeat("t", n)
		d := with("old", text)
		one, two := d.Bytes(), d.Bytes()
		kept := string(one)
		d.Append([]byte("d"))
		one = append(one, "one"...)
		two = append(two, "two"...)
		d.Append([]byte("e"))
		if string(one) != kept+"one" || string(two) != kept+"two" {
			t.Errorf("%q, %q; want %q with its own behind", one, two, kept)
		}
		for _, b := range [][]byte{one, two} {
			b = b[:cap(b)]
			for i := range b {
				b[i] = '!'
			}
		}
		is(t, "behind its answers", d, "old", text+"de", 3, false)
		told := d.Bytes()
		d.Cut(0)
		d.On()
		d.Append([]byte("xyz"))
		d.Replace([]byte("r"))
		if string(told) != "old"+text+"de" {
			t.Errorf("%q: changed behind its telling", told)
		}
	}
	if b := disk.New().Bytes(); len(b) != 0 {
		t.Errorf("%q of nothing", b)
	}
}

// TestMany appends byte by byte, and tells all of them.
func TestMany(t *testing.T) {
	const many = 1 << 20
	d := disk.New()
	var want []byte
	for i := range many {
		b := byte(i * 7)
		want = append(want, b)
		if e := d.Append([]byte{b}); e != api.OK {
			t.Fatalf("%d: %v", i, e)
		}
		if i%3 == 0 && d.Sync() != api.OK {
			t.Fatal("no Sync")
		}
	}
	if !bytes.Equal(d.Bytes(), want) || d.Len() != many || d.Tail() != (many-1)%3 {
		t.Errorf("%d bytes, a tail of %d", d.Len(), d.Tail())
	}
	d.Cut(0)
	if !bytes.Equal(d.Bytes(), want[:many-(many-1)%3]) {
		t.Errorf("%d bytes behind the cut", d.Len())
	}
}
