package journal_test

import (
	"bytes"
	"fmt"
	"math/rand/v2"
	"strconv"
	"strings"
	"testing"

	"belfry/api"
	"belfry/journal"
)

// The tests here are of P1101's Encode and Scan, with P1 to P4, P6 and P8 as far as they bear on them.

// rec tells a record of that kind and of those bytes.
func rec(kind byte, data string) journal.Record {
	return journal.Record{Kind: kind, Data: []byte(data)}
}

// told tells records as one text, none of which is another's.
func told(rs []journal.Record) string {
	s := ""
	for _, r := range rs {
		s += strconv.Itoa(int(r.Kind)) + ":" + strconv.Quote(string(r.Data)) + " "
	}
	return s
}

// written tells the bytes of records, as the chapter writes them.
func written(rs ...journal.Record) string {
	var s strings.Builder
	for _, r := range rs {
		n := len(r.Data)
		s.WriteString(string([]byte{byte(n % 256), byte(n / 256), r.Kind}) + string(r.Data) + string([]byte{r.Kind}))
	}
	return s.String()
}

// all: each byte that there is.
func all() string {
	var b []byte
	for i := range 256 {
		b = append(b, byte(i))
	}
	return string(b)
}

// lengths of Data: at the edges of each of the two bytes, and between.
var lengths = []int{0, 1, 2, 3, 254, 255, 256, 257, 511, 512, 513, 4095, 65279, 65280, 65281, 65534, 65535}

func TestEncode(t *testing.T) {
	for _, c := range []struct {
		r    journal.Record
		want string
	}{
		{rec('a', ""), "\x00\x00aa"},
		{journal.Record{Kind: 'a'}, "\x00\x00aa"},
		{rec('a', "x"), "\x01\x00axa"},
		{rec(1, "\x00"), "\x01\x00\x01\x00\x01"},
		{rec(255, "\xff\xfe"), "\x02\x00\xff\xff\xfe\xff"},
		{rec('k', all()), "\x00\x01k" + all() + "k"},
		{rec('k', strings.Repeat("z", 65535)), "\xff\xffk" + strings.Repeat("z", 65535) + "k"},
	} {
		b, e := journal.Encode(c.r)
		if string(b) != c.want || e != api.OK {
			t.Errorf("Encode %d, %.20q: %.40q, %v; want %.40q", c.r.Kind, c.r.Data, b, e, c.want)
		}
	}
	for _, n := range lengths {
		for _, kind := range []byte{1, 2, 'a', 127, 128, 254, 255} {
			r := rec(kind, strings.Repeat("ab\x00\xff", n/4+1)[:n])
			b, e := journal.Encode(r)
			if string(b) != written(r) || len(b) != n+4 || e != api.OK {
				t.Errorf("Encode %d, %d bytes: %d of them, %v", kind, n, len(b), e)
			}
		}
	}
}

func TestEncodeWrong(t *testing.T) {
	for _, c := range []struct {
		kind byte
		n    int
		want api.Errno
	}{
		{0, 0, api.ErrArg},
		{0, 1, api.ErrArg},
		{0, 65535, api.ErrArg},
		{1, 65536, api.ErrLong},
		{255, 65536, api.ErrLong},
		{'a', 65537, api.ErrLong},
		{'a', 1<<17 - 1, api.ErrLong},
		{'a', 1 << 17, api.ErrLong},
		{'a', 1 << 24, api.ErrLong},
		{0, 65536, api.ErrLong},
		{0, 1 << 20, api.ErrLong},
	} {
		b, e := journal.Encode(journal.Record{Kind: c.kind, Data: make([]byte, c.n)})
		if len(b) != 0 || e != c.want {
			t.Errorf("Encode %d, %d bytes: %d bytes, %v; want %v", c.kind, c.n, len(b), e, c.want)
		}
	}
}

func TestScan(t *testing.T) {
	for _, c := range []struct {
		b    string
		want []journal.Record
		n    int
	}{
		{"", nil, 0},
		{"\x00\x00aa", []journal.Record{rec('a', "")}, 4},
		{"\x00\x00\xff\xff", []journal.Record{rec(255, "")}, 4},
		{"\x01\x00axa", []journal.Record{rec('a', "x")}, 5},
		{"\x02\x00a\x00\xffa", []journal.Record{rec('a', "\x00\xff")}, 6},
		{"\x01\x00axa\x00\x00bb\x01\x00aya", []journal.Record{rec('a', "x"), rec('b', ""), rec('a', "y")}, 14},
		// of a Data that is a record itself, or what is behind one
		{"\x04\x00a\x00\x00bba", []journal.Record{rec('a', "\x00\x00bb")}, 8},
		{"\x04\x00a\x00\x00bbb\x00\x00cc", nil, 0},
		// too short, by each byte
		{"\x00", nil, 0},
		{"\x00\x00", nil, 0},
		{"\x00\x00a", nil, 0},
		{"\x01\x00a", nil, 0},
		{"\x01\x00aa", nil, 0},
		{"\x02\x00axa", nil, 0},
		{"\x00\x01aa", nil, 0},
		{"\xff\xffaa", nil, 0},
		{"\x01\x00axa\x00", []journal.Record{rec('a', "x")}, 5},
		{"\x01\x00axa\x00\x00", []journal.Record{rec('a', "x")}, 5},
		{"\x01\x00axa\x00\x00b", []journal.Record{rec('a', "x")}, 5},
		// the kind: 0, and two that are not the same
		{"\x00\x00\x00\x00", nil, 0},
		{"\x01\x00\x00a\x00", nil, 0},
		{"\x00\x00ab", nil, 0},
		{"\x00\x00a\x00", nil, 0},
		{"\x00\x00\x00a", nil, 0},
		{"\x01\x00axb", nil, 0},
		// what is right behind what is not is not told
		{"\x00\x00aa\x00\x00\x00\x00\x00\x00bb", []journal.Record{rec('a', "")}, 4},
		{"\x00\x00aa\x00\x00bc\x00\x00dd", []journal.Record{rec('a', "")}, 4},
		{"x\x00\x00aa", nil, 0},
	} {
		if rs, n := journal.Scan([]byte(c.b)); told(rs) != told(c.want) || n != c.n {
			t.Errorf("Scan %q: %s, %d; want %s, %d", c.b, told(rs), n, told(c.want), c.n)
		}
	}
}

// TestScanOfEncode: what Encode wrote is told again, be it of any length, alone or between others.
func TestScanOfEncode(t *testing.T) {
	var rs []journal.Record
	row := ""
	for i, n := range lengths {
		r := rec(byte(255-i), strings.Repeat(all(), n/256+1)[:n])
		b, _ := journal.Encode(r)
		if one, taken := journal.Scan(b); told(one) != told([]journal.Record{r}) || taken != len(b) {
			t.Errorf("%d bytes: %d records, %d", n, len(one), taken)
		}
		if none, taken := journal.Scan(b[:len(b)-1]); len(none) != 0 || taken != 0 {
			t.Errorf("%d bytes but one: %d records, %d", n, len(none), taken)
		}
		rs, row = append(rs, r), row+string(b)
	}
	if got, n := journal.Scan([]byte(row)); told(got) != told(rs) || n != len(row) {
		t.Errorf("all of them: %d records, %d bytes of %d", len(got), n, len(row))
	}
}

// TestEachKind: each kind but 0 may be, and no other one may stand at the end.
func TestEachKind(t *testing.T) {
	for kind := range 256 {
		for again := range 256 {
			b := []byte{1, 0, byte(kind), 'x', byte(again)}
			rs, n := journal.Scan(b)
			if kind != 0 && kind == again {
				if told(rs) != told([]journal.Record{rec(byte(kind), "x")}) || n != 5 {
					t.Errorf("%d: %s, %d", kind, told(rs), n)
				}
			} else if len(rs) != 0 || n != 0 {
				t.Errorf("%d, %d: %s, %d", kind, again, told(rs), n)
			}
		}
	}
}

// plainScan tells the records of b as the chapter has them, by writing each that there might be once more.
func plainScan(b string) ([]journal.Record, int) {
	var rs []journal.Record
	n := 0
	for {
		found := false
		for end := n + 4; end <= len(b) && !found; end++ {
			r := rec(b[n+2], b[n+3:end-1])
			if found = r.Kind != 0 && b[n:end] == written(r); found {
				rs, n = append(rs, r), end
			}
		}
		if !found {
			return rs, n
		}
	}
}

// TestScanOfAll goes through all short rows of a few bytes.
func TestScanOfAll(t *testing.T) {
	var b []byte
	var from func(left int)
	from = func(left int) {
		rs, n := journal.Scan(b)
		want, m := plainScan(string(b))
		if told(rs) != told(want) || n != m {
			t.Fatalf("Scan %q: %s, %d; want %s, %d", b, told(rs), n, told(want), m)
		}
		if left == 0 {
			return
		}
		for _, c := range []byte{0, 1, 2, 'a'} {
			b = append(b, c)
			from(left - 1)
			b = b[:len(b)-1]
		}
	}
	from(9)
}

// TestScanNearby cuts, changes and doubles bytes of rows that were well written.
func TestScanNearby(t *testing.T) {
	r := rand.New(rand.NewPCG(11, 1101))
	for range 20000 {
		row := ""
		for range r.IntN(5) {
			row += written(rec(byte(r.IntN(4)), strings.Repeat("\x01", r.IntN(4))))
		}
		b := []byte(row)
		for range r.IntN(3) {
			if len(b) == 0 {
				break
			}
			at := r.IntN(len(b))
			switch r.IntN(4) {
			case 0:
				b = b[:at]
			case 1:
				b[at] = byte(r.IntN(4))
			case 2:
				b = append(b[:at:at], b[at+1:]...)
			case 3:
				b = append(b[:at+1:at+1], b[at:]...)
			}
		}
		rs, n := journal.Scan(b)
		if want, m := plainScan(string(b)); told(rs) != told(want) || n != m {
			t.Fatalf("Scan %q: %s, %d; want %s, %d", b, told(rs), n, told(want), m)
		}
	}
}

// TestBytesHandedIn: what is handed in, its spare room too, is not changed, not kept.
func TestBytesHandedIn(t *testing.T) {
	for n := range 60 {
		room := []byte(all())
		b, e := journal.Encode(journal.Record{Kind: 'k', Data: room[100 : 100+n]})
		want := written(rec('k', all()[100:100+n]))
		if string(room) != all() || e != api.OK {
			t.Fatalf("Encode of %d bytes: what was handed in is changed", n)
		}
		for i := range room {
			room[i] = '!'
		}
		if string(b) != want {
			t.Errorf("Encode of %d bytes: %q, when what was handed in changed", n, b)
		}
		b = append(b, "more"...)
		for i := range b {
			b[i] = '?'
		}
		if strings.Trim(string(room), "!") != "" {
			t.Errorf("Encode of %d bytes: what was handed in is told", n)
		}
	}
	row := written(rec('a', "xyz"), rec('b', ""), rec('c', "uv")) + "rest and room"
	room := []byte(row)
	rs, n := journal.Scan(room[:len(room)-9])
	if string(room) != row {
		t.Error("Scan: what was handed in is changed")
	}
	clear(room)
	if want := told([]journal.Record{rec('a', "xyz"), rec('b', ""), rec('c', "uv")}); told(rs) != want || n != 17 {
		t.Errorf("Scan: %s, %d, when what was handed in changed; want %s", told(rs), n, want)
	}
	for _, r := range rs {
		fill(r.Data, '!')
	}
	if !bytes.Equal(room, make([]byte, len(row))) {
		t.Error("Scan: what was handed in is told")
	}
}

// fill puts c in all of b, its spare room too.
func fill(b []byte, c byte) {
	b = b[:cap(b)]
	for i := range b {
		b[i] = c
	}
}

// alone sees to it that no two of these share any memory, nor any room to spare.
func alone(t *testing.T, what string, rs ...journal.Record) {
	t.Helper()
	before := make([]string, len(rs))
	for i, r := range rs {
		before[i] = string(r.Data)
	}
	for i, r := range rs {
		mine := bytes.Clone(r.Data[:cap(r.Data)])
		fill(r.Data, '!')
		for j, other := range rs {
			if j != i && string(other.Data) != before[j] {
				t.Errorf("%s: %d and %d share memory", what, i, j)
			}
		}
		copy(r.Data[:cap(r.Data)], mine)
	}
	for i, r := range rs {
		fill(r.Data, byte(i))
	}
	for i, r := range rs {
		if got := r.Data[:cap(r.Data)]; strings.Trim(string(got), string([]byte{byte(i)})) != "" {
			t.Errorf("%s: %d shares its room", what, i)
		}
	}
}

// TestScanAnswers: what is told is nobody else's.
func TestScanAnswers(t *testing.T) {
	var rs []journal.Record
	for n := range 40 {
		rs = append(rs, rec(byte(n+1), strings.Repeat("d", n%9)))
	}
	b := []byte(written(rs...))
	one, _ := journal.Scan(b)
	two, _ := journal.Scan(b)
	if told(one) != told(rs) || told(two) != told(rs) {
		t.Errorf("%s, %s; want %s", told(one), told(two), told(rs))
	}
	one = append(one, rec('x', "x"))
	two = append(two, rec('y', "y"))
	if told(one[40:]) != told([]journal.Record{rec('x', "x")}) {
		t.Errorf("two answers share room: %s", told(one[40:]))
	}
	alone(t, "Scan", append(one, two...)...)
	c, _ := journal.Encode(rs[3])
	d, _ := journal.Encode(rs[3])
	alone(t, "Encode", journal.Record{Data: c}, journal.Record{Data: d})
}

func TestBytesSameAgain(t *testing.T) {
	answers := func() string {
		r, s := rand.New(rand.NewPCG(1, 1101)), ""
		for range 300 {
			b, e := journal.Encode(rec(byte(r.IntN(3)), strings.Repeat("a", r.IntN(5))))
			rs, n := journal.Scan(append(b, b...))
			s += fmt.Sprint(b, e, told(rs), n)
		}
		return s
	}
	if answers() != answers() {
		t.Error("now so, now so")
	}
}
