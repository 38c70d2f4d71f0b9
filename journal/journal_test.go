package journal_test

import (
	"errors"
	"fmt"
	"slices"
	"strings"
	"testing"

	"belfry/api"
	"belfry/disk"
	"belfry/journal"
)

// The tests here are of P1101's log, with P1 to P7 as far as they bear on it.

// opened tells the log on d, where there must be one.
func opened(t *testing.T, d *disk.Disk) *journal.Log {
	t.Helper()
	l, _, e := journal.Open(d)
	if e != api.OK || l == nil {
		t.Fatalf("Open: %v", e)
	}
	return l
}

// is sees to it that d has these bytes, the last ones of them as its tail, that so many ops were done, and that l has so many records.
func is(t *testing.T, what string, l *journal.Log, d *disk.Disk, kept, tail string, ops, n int) {
	t.Helper()
	if got := string(d.Bytes()); got != kept+tail || d.Tail() != len(tail) {
		t.Errorf("%s: %.99q, a tail of %d; want %.99q and %.99q", what, got, d.Tail(), kept, tail)
	}
	if d.Ops() != ops || l.Len() != n {
		t.Errorf("%s: %d ops, %d records; want %d, %d", what, d.Ops(), l.Len(), ops, n)
	}
}

// tells sees to it that e was told.
func tells(t *testing.T, what string, got, want api.Errno) {
	t.Helper()
	if got != want {
		t.Errorf("%s: %v; want %v", what, got, want)
	}
}

// long: a record that is one byte too long.
func long(kind byte) journal.Record {
	return rec(kind, strings.Repeat("l", 65536))
}

func TestOpen(t *testing.T) {
	ab := written(rec('a', "x"), rec('b', ""))
	for _, c := range []struct {
		b, keeps string
		want     []journal.Record
	}{
		{"", "", nil},
		{ab, ab, []journal.Record{rec('a', "x"), rec('b', "")}},
		{ab + "\x00", ab, []journal.Record{rec('a', "x"), rec('b', "")}},
		{ab + "\x01\x00cy", ab, []journal.Record{rec('a', "x"), rec('b', "")}},
		{ab + "\x00\x00cd\x00\x00ee", ab, []journal.Record{rec('a', "x"), rec('b', "")}},
		{ab[:len(ab)-1], ab[:5], []journal.Record{rec('a', "x")}},
		{"\x00\x00\x00\x00" + ab, "", nil},
		{"junk", "", nil},
		{"j", "", nil},
	} {
		d := disk.Of([]byte(c.b))
		l, rs, e := journal.Open(d)
		if e != api.OK || told(rs) != told(c.want) {
			t.Errorf("Open %q: %s, %v; want %s", c.b, told(rs), e, told(c.want))
			continue
		}
		ops := 1 // a Replace, if there is something to take away
		if c.b == c.keeps {
			ops = 0
		}
		is(t, "Open", l, d, c.keeps, "", ops, len(c.want))
		d.Cut(0)
		if string(d.Bytes()) != c.keeps {
			t.Errorf("Open %q, and a cut: %q", c.b, d.Bytes())
		}
		d.On()
		l, rs, e = journal.Open(d)
		if e != api.OK || told(rs) != told(c.want) {
			t.Errorf("Open %q again: %s, %v; want %s", c.b, told(rs), e, told(c.want))
			continue
		}
		is(t, "Open again", l, d, c.keeps, "", ops, len(c.want))
	}
}

// TestOpenTail: records of the tail are told, and are of the tail still; all is kept if bytes are taken away.
func TestOpenTail(t *testing.T) {
	a, b := written(rec('a', "x")), written(rec('b', "y"))
	d := disk.Of([]byte(a))
	d.Append([]byte(b))
	l, rs, e := journal.Open(d)
	if e != api.OK || told(rs) != told([]journal.Record{rec('a', "x"), rec('b', "y")}) {
		t.Errorf("Open: %s, %v", told(rs), e)
	}
	is(t, "Open of a tail", l, d, a, b, 1, 2)
	d.Append([]byte("\x00"))
	l, rs, e = journal.Open(d)
	if e != api.OK || told(rs) != told([]journal.Record{rec('a', "x"), rec('b', "y")}) {
		t.Errorf("Open: %s, %v", told(rs), e)
	}
	is(t, "Open of a tail and more", l, d, a+b, "", 3, 2)
}

func TestOpenDown(t *testing.T) {
	for _, b := range []string{"", written(rec('a', "x")), written(rec('a', "x")) + "junk", "junk"} {
		d := disk.Of([]byte(b))
		d.Cut(0)
		for range 2 {
			l, rs, e := journal.Open(d)
			if l != nil || len(rs) != 0 || e != api.ErrDown || string(d.Bytes()) != b || d.Ops() != 0 {
				t.Errorf("Open of %q while it is off: %s, %v, %q", b, told(rs), e, d.Bytes())
			}
		}
		if _, _, e := journal.Open(d); !errors.Is(e, api.ErrDown) {
			t.Error("Open: no error of api")
		}
	}
	for _, keep := range []int{-1, 0, 1, 99} {
		lies := written(rec('a', "x")) + "ju"
		d := disk.Of([]byte(lies))
		d.Append([]byte("nk"))
		d.Arm(1, keep)
		l, rs, e := journal.Open(d)
		lies += "nk"[:max(0, min(keep, 2))]
		if l != nil || len(rs) != 0 || e != api.ErrDown || !d.Off() || string(d.Bytes()) != lies || d.Ops() != 1 {
			t.Errorf("Open while the power goes: %s, %v, %q", told(rs), e, d.Bytes())
		}
		d.On()
		if l, rs, e = journal.Open(d); e != api.OK || told(rs) != told([]journal.Record{rec('a', "x")}) {
			t.Fatalf("Open: %s, %v", told(rs), e)
		}
		is(t, "Open behind it", l, d, lies[:5], "", 2, 1)
	}
	d := disk.Of([]byte(written(rec('a', "x"))))
	d.Arm(1, 0)
	l := opened(t, d)
	if is(t, "Open with nothing to take away is no op", l, d, written(rec('a', "x")), "", 0, 1); d.Off() {
		t.Error("Open: the power is off")
	}
}

// TestOpenLong opens a disk with a great many records.
func TestOpenLong(t *testing.T) {
	var rs []journal.Record
	for i := range 100000 {
		rs = append(rs, rec(byte(i%255+1), strings.Repeat("r", i%13)))
	}
	rs = append(rs, rec('z', strings.Repeat("z", 65535)), rec('y', ""))
	row := written(rs...)
	d := disk.Of([]byte(row + "\x09\x00"))
	l, got, e := journal.Open(d)
	if e != api.OK || !slices.EqualFunc(got, rs, same) {
		t.Fatalf("Open: %d records, %v", len(got), e)
	}
	is(t, "Open", l, d, row, "", 1, len(rs))
}

// same tells whether a and b are alike.
func same(a, b journal.Record) bool { return a.Kind == b.Kind && string(a.Data) == string(b.Data) }

func TestAdd(t *testing.T) {
	d := disk.New()
	l := opened(t, d)
	is(t, "Open", l, d, "", "", 0, 0)
	tail := ""
	for i, r := range []journal.Record{rec('a', "x"), rec('a', "x"), rec('b', ""), rec(255, all()), rec(1, strings.Repeat("l", 65535)), rec('e', "end")} {
		tells(t, "Add", l.Add(r), api.OK)
		tail += written(r)
		is(t, "Add", l, d, "", tail, i+1, i+1)
	}
	tells(t, "Sync", l.Sync(), api.OK)
	is(t, "Sync", l, d, tail, "", 7, 6)
	tells(t, "Add", l.Add(rec('f', "1")), api.OK)
	is(t, "Add behind a Sync", l, d, tail, written(rec('f', "1")), 8, 7)

	d = disk.Of([]byte(written(rec('o', "ld")) + "junk"))
	l = opened(t, d)
	tells(t, "Add", l.Add(rec('n', "ew")), api.OK)
	is(t, "Add behind what was there", l, d, written(rec('o', "ld")), written(rec('n', "ew")), 2, 2)
}

func TestAddWrong(t *testing.T) {
	d := disk.Of([]byte(written(rec('a', "x"))))
	l := opened(t, d)
	l.Add(rec('b', "y"))
	kept, tail := written(rec('a', "x")), written(rec('b', "y"))
	for _, off := range []bool{false, true} {
		if off {
			d.Cut(99)
			kept, tail = kept+tail, ""
		}
		for range 2 {
			tells(t, "Add of kind 0", l.Add(rec(0, "x")), api.ErrArg)
			tells(t, "Add of too many", l.Add(long('a')), api.ErrLong)
			tells(t, "Add of too many of kind 0", l.Add(long(0)), api.ErrLong)
			is(t, "Add of what may not be", l, d, kept, tail, 1, 2)
		}
	}
	d.On()
	d.Arm(1, 0)
	tells(t, "Add of kind 0", l.Add(rec(0, "x")), api.ErrArg)
	tells(t, "Add of too many", l.Add(long('a')), api.ErrLong)
	if is(t, "what may not be is no op", l, d, kept, tail, 1, 2); d.Off() {
		t.Error("Add of what may not be: the power is off")
	}
}

func TestSync(t *testing.T) {
	d := disk.New()
	l := opened(t, d)
	tells(t, "Sync", l.Sync(), api.OK)
	is(t, "Sync of nothing", l, d, "", "", 1, 0)
	row := ""
	for i, r := range []journal.Record{rec('a', "x"), rec('b', ""), rec('c', all())} {
		l.Add(r)
		tells(t, "Sync", l.Sync(), api.OK)
		row += written(r)
		is(t, "Sync", l, d, row, "", 3+2*i, i+1)
	}
	tells(t, "Sync", l.Sync(), api.OK)
	is(t, "Sync of no tail", l, d, row, "", 8, 3)
	d.Append([]byte(written(rec('d', "z"))))
	l = opened(t, d)
	tells(t, "Sync", l.Sync(), api.OK)
	is(t, "Sync of a tail that was there", l, d, row+written(rec('d', "z")), "", 10, 4)
}

func TestSnap(t *testing.T) {
	rows := [][]journal.Record{nil, {rec('a', "")}, {rec('a', "x"), rec('a', "x")}, {rec(1, "1"), rec(255, all()), rec('m', strings.Repeat("m", 65535)), rec('e', "")}}
	for _, old := range rows {
		for _, tail := range rows {
			for _, rs := range rows {
				d := disk.Of([]byte(written(old...)))
				l := opened(t, d)
				for _, r := range tail {
					l.Add(r)
				}
				is(t, "Add", l, d, written(old...), written(tail...), len(tail), len(old)+len(tail))
				tells(t, "Snap", l.Snap(rs...), api.OK)
				is(t, "Snap", l, d, written(rs...), "", len(tail)+1, len(rs))
				tells(t, "Add", l.Add(rec('+', "+")), api.OK)
				is(t, "Add behind a Snap", l, d, written(rs...), written(rec('+', "+")), len(tail)+2, len(rs)+1)
				_, got, e := journal.Open(d)
				if e != api.OK || !slices.EqualFunc(got, append(rs[:len(rs):len(rs)], rec('+', "+")), same) {
					t.Errorf("Snap %s: %s", told(rs), told(got))
				}
			}
		}
	}
}

func TestSnapWrong(t *testing.T) {
	ok := rec('o', "k")
	none := rec(0, "")
	for _, off := range []bool{false, true} {
		d := disk.Of([]byte(written(rec('a', "x"))))
		l := opened(t, d)
		l.Add(rec('b', "y"))
		kept, tail := written(rec('a', "x")), written(rec('b', "y"))
		if off {
			d.Cut(0)
			tail = ""
		}
		for _, c := range []struct {
			rs   []journal.Record
			want api.Errno
		}{
			{[]journal.Record{none}, api.ErrArg},
			{[]journal.Record{long('l')}, api.ErrLong},
			{[]journal.Record{long(0)}, api.ErrLong},
			{[]journal.Record{ok, none}, api.ErrArg},
			{[]journal.Record{ok, ok, long('l')}, api.ErrLong},
			{[]journal.Record{none, long('l')}, api.ErrArg},
			{[]journal.Record{long('l'), none}, api.ErrLong},
			{[]journal.Record{ok, none, long('l'), ok}, api.ErrArg},
			{[]journal.Record{none, ok}, api.ErrArg},
		} {
			tells(t, "Snap of what may not be", l.Snap(c.rs...), c.want)
			is(t, "Snap of what may not be", l, d, kept, tail, 1, 2)
		}
		if !off {
			d.Arm(1, 0)
			tells(t, "Snap of what may not be", l.Snap(ok, none), api.ErrArg)
			if is(t, "what may not be is no op", l, d, kept, tail, 1, 2); d.Off() {
				t.Error("Snap of what may not be: the power is off")
			}
		}
	}
}

func TestDown(t *testing.T) {
	kept := written(rec('a', "x"), rec('b', "y"))
	d := disk.Of([]byte(kept))
	l := opened(t, d)
	d.Cut(0)
	for range 2 {
		tells(t, "Add while it is off", l.Add(rec('c', "z")), api.ErrDown)
		tells(t, "Sync while it is off", l.Sync(), api.ErrDown)
		tells(t, "Snap while it is off", l.Snap(rec('c', "z")), api.ErrDown)
		tells(t, "Snap of none while it is off", l.Snap(), api.ErrDown)
		is(t, "while it is off", l, d, kept, "", 0, 2)
	}
	d.On()
	is(t, "On", l, d, kept, "", 0, 2)
	tells(t, "Sync", l.Sync(), api.OK)
	tells(t, "Add", l.Add(rec('c', "z")), api.OK)
	is(t, "Add", l, d, kept, written(rec('c', "z")), 2, 3)
}

// TestArmed: the power goes with a call; it tells so, and of an Add a front lies there.
func TestArmed(t *testing.T) {
	kept, tail, added := written(rec('a', "x")), written(rec('b', "y")), written(rec('c', "zz"))
	for keep := -1; keep <= len(tail+added)+1; keep++ {
		for _, c := range []struct {
			name  string
			do    func(l *journal.Log) api.Errno
			front string
		}{
			{"Add", func(l *journal.Log) api.Errno { return l.Add(rec('c', "zz")) }, tail + added},
			{"Sync", func(l *journal.Log) api.Errno { return l.Sync() }, tail},
			{"Snap", func(l *journal.Log) api.Errno { return l.Snap(rec('c', "zz")) }, tail},
			{"Snap of none", func(l *journal.Log) api.Errno { return l.Snap() }, tail},
		} {
			d := disk.Of([]byte(kept))
			l := opened(t, d)
			l.Add(rec('b', "y"))
			d.Arm(1, keep)
			tells(t, c.name+", armed", c.do(l), api.ErrDown)
			lies := kept + c.front[:max(0, min(keep, len(c.front)))]
			is(t, c.name+", armed", l, d, lies, "", 1, 2)
			tells(t, c.name+", off", c.do(l), api.ErrDown)
			is(t, c.name+", off", l, d, lies, "", 1, 2)
		}
	}
}

// TestEachIsOneOp: of an Add, a Sync and a Snap each is one op of the disk, and the log does no other.
func TestEachIsOneOp(t *testing.T) {
	for n := 1; n <= 9; n++ {
		d := disk.New()
		l := opened(t, d)
		d.Arm(n, 0)
		for i := 1; i <= n; i++ {
			e := []func() api.Errno{
				func() api.Errno { return l.Add(rec('a', "x")) },
				l.Sync,
				func() api.Errno { return l.Snap(rec('a', "x"), rec('b', "y")) },
			}[i%3]()
			l.Len()
			if want := map[bool]api.Errno{true: api.ErrDown}[i == n]; e != want {
				t.Errorf("armed %d: %d: %v; want %v", n, i, e, want)
			}
		}
	}
}

// TestHandedIn: what is handed in, its spare room too, is not changed, not kept.
func TestHandedIn(t *testing.T) {
	for n := range 30 {
		room := []byte(all())
		rs := []journal.Record{{Kind: 'a', Data: room[10 : 10+n]}, {Kind: 'b', Data: room[100 : 100+n]}, rec('c', "spare")}
		d, f := disk.New(), disk.New()
		l, m := opened(t, d), opened(t, f)
		l.Add(rs[0])
		l.Add(rs[1])
		m.Snap(rs[:2]...)
		want := written(rec('a', all()[10:10+n]), rec('b', all()[100:100+n]))
		if string(room) != all() || told(rs[2:]) != told([]journal.Record{rec('c', "spare")}) {
			t.Fatalf("%d bytes: what was handed in is changed", n)
		}
		fill(room, '!')
		clear(rs)
		l.Add(rec('d', "1"))
		m.Add(rec('d', "1"))
		want += written(rec('d', "1"))
		is(t, "Add", l, d, "", want, 3, 3)
		is(t, "Snap", m, f, want[:8+2*n], want[8+2*n:], 2, 3)
		l.Snap()
		m.Snap()
		if strings.Trim(string(room), "!") != "" {
			t.Fatalf("%d bytes: what was handed in is changed later", n)
		}
	}
}

// TestOpenAnswers: the records that Open tells are nobody else's, and no two logs know of each other.
func TestOpenAnswers(t *testing.T) {
	rs := []journal.Record{rec('a', "xyz"), rec('b', ""), rec('c', "uv"), rec('d', strings.Repeat("d", 33))}
	for _, behind := range []string{"", "junk"} {
		d := disk.Of([]byte(written(rs...) + behind))
		l, one, _ := journal.Open(d)
		_, two, _ := journal.Open(d)
		alone(t, "Open", append(one[:len(one):len(one)], two...)...)
		if string(d.Bytes()) != written(rs...) || l.Len() != 4 {
			t.Errorf("Open: %q, when its answers changed", d.Bytes())
		}
		one = append(one, rec('x', "x"))
		two = append(two, rec('y', "y"))
		if told(one[4:]) != told([]journal.Record{rec('x', "x")}) {
			t.Errorf("two answers share room: %s", told(one[4:]))
		}
		for _, r := range one {
			fill(r.Data, '!')
		}
		l.Add(rec('e', "1"))
		if want := written(append(rs, rec('e', "1"))...); string(d.Bytes()) != want {
			t.Errorf("%q; want %q", d.Bytes(), want)
		}
	}
}

// TestManyLogs: logs of disks of their own, by turns.
func TestManyLogs(t *testing.T) {
	var ds []*disk.Disk
	var ls []*journal.Log
	for range 5 {
		ds = append(ds, disk.New())
		ls = append(ls, opened(t, ds[len(ds)-1]))
	}
	for n := range 20 {
		for i, l := range ls {
			for range i {
				tells(t, "Add", l.Add(rec(byte(i), fmt.Sprint(n))), api.OK)
			}
		}
	}
	for i, l := range ls {
		want := ""
		for n := range 20 {
			want += strings.Repeat(written(rec(byte(i), fmt.Sprint(n))), i)
		}
		is(t, "by turns", l, ds[i], "", want, 20*i, 20*i)
	}
}

// TestMany adds a great many records, each of which takes no more steps than the first one.
func TestMany(t *testing.T) {
	const many = 200000
	d := disk.Of([]byte("junk"))
	l := opened(t, d)
	for range 2 {
		for i := range many {
			if e := l.Add(rec(byte(i%255+1), "many")); e != api.OK {
				t.Fatalf("Add: %d: %v", i, e)
			}
			if i%5 == 0 {
				tells(t, "Sync", l.Sync(), api.OK)
			}
		}
		if l.Len() != many || d.Len() != 8*many || d.Tail() != 8*4 {
			t.Errorf("%d records, %d bytes, a tail of %d", l.Len(), d.Len(), d.Tail())
		}
		l.Snap()
	}
}

// TestNoLog: a log that Open did not tell has no power, and no records.
func TestNoLog(t *testing.T) {
	var l journal.Log
	tells(t, "Add", l.Add(rec('a', "x")), api.ErrDown)
	tells(t, "Add of kind 0", l.Add(rec(0, "x")), api.ErrArg)
	tells(t, "Sync", l.Sync(), api.ErrDown)
	tells(t, "Snap", l.Snap(rec('a', "x")), api.ErrDown)
	tells(t, "Snap of kind 0", l.Snap(rec(0, "x")), api.ErrArg)
	if l.Len() != 0 {
		t.Errorf("%d records", l.Len())
	}
}
