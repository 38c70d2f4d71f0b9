package label_test

import (
	"fmt"
	"slices"
	"strings"
	"testing"

	"belfry/api"
	"belfry/label"
)

// The tests here and in text_test.go are of P301, with P2 to P4, P6, P8 and P9 as far as they bear on it.

// of tells a set of names and values, one behind the other.
func of(l ...string) label.Set {
	var s label.Set
	for i := 0; i < len(l); i += 2 {
		s = append(s, label.Label{Name: l[i], Value: l[i+1]})
	}
	return s
}

// many tells a set of n labels.
func many(n int) label.Set {
	var s label.Set
	for i := range n {
		s = append(s, label.Label{Name: fmt.Sprintf("l%02d", i), Value: fmt.Sprintf("v%d", i)})
	}
	return s
}

// same sees to it that a set is want, label by label.
func same(t *testing.T, what string, got, want label.Set) {
	t.Helper()
	if !slices.Equal(got, want) {
		t.Errorf("%s: %q; want %q", what, got, want)
	}
}

// guarded tells s with spare room behind it that holds a label of its own, and a look whether all of that is untouched.
func guarded(t *testing.T, s label.Set) (label.Set, func(what string)) {
	t.Helper()
	spare := label.Label{Name: "spare", Value: "room"}
	room := append(slices.Clone(s), spare, spare)
	was := slices.Clone(room)
	return room[:len(s)], func(what string) {
		t.Helper()
		if !slices.Equal(room, was) {
			t.Errorf("%s changed what was handed in: %q; want %q", what, room, was)
		}
	}
}

var (
	longName  = strings.Repeat("n", 16)
	longValue = strings.Repeat("v", 64)
)

func TestName(t *testing.T) {
	for _, s := range []string{"a", "z", "_", "__", "_9", "a0", "z9", "m5", "a_b", "job", "l00", longName, "_bcdefghijklmno9", "a234567890123456"} {
		if !label.Name(s) {
			t.Errorf("%q is a name", s)
		}
	}
	for _, s := range []string{"", "0", "9", "0a", "9_", "123", "A", "Z", "aB", "Ab", "a-b", "-", "a.b", "a:b", "a b", " a", "a ", " ", "a\n", "\x00", "a\x00", "a\x00b", "a\x7f", "\xff", "a\xff", "a\xffb",
		"\u00e9", "a\u00e9", "a\u00e9b", "\u0663", "a\u0663", "\uff41", "`", "{", "@", "[", "/", ":", "^", "a=", "\"a\"", longName + "n", "1" + longName, strings.Repeat("a", 1<<20)} {
		if label.Name(s) {
			t.Errorf("%.99q is no name", s)
		}
	}
}

func TestNameOfEachByte(t *testing.T) {
	for c := range 256 {
		letter := 'a' <= c && c <= 'z' || c == '_'
		digit := '0' <= c && c <= '9'
		s := string([]byte{byte(c)})
		for _, x := range []struct {
			s    string
			want bool
		}{{s, letter}, {s + "a", letter}, {"a" + s, letter || digit}, {"a" + s + "a", letter || digit}} {
			if got := label.Name(x.s); got != x.want {
				t.Errorf("%q: %v; want %v", x.s, got, x.want)
			}
		}
	}
}

func TestValue(t *testing.T) {
	for _, s := range []string{" ", "~", " ~", "  ", "a", "A", "0", "\"", "\\", "\"\\", "{a=\"b\"}", "a b, c=d", longValue, strings.Repeat(" ", 64), strings.Repeat("~", 64), strings.Repeat("\"", 64)} {
		if !label.Value(s) {
			t.Errorf("%q is a value", s)
		}
	}
	for _, s := range []string{"", longValue + "v", strings.Repeat("\"", 65), strings.Repeat("\u00e9", 33), "\u00e9", "a\u00e9", "\ufffd", "a\n", "\na", "a\tb", strings.Repeat("a", 63) + "\x7f", strings.Repeat("a", 1<<20)} {
		if label.Value(s) {
			t.Errorf("%.99q is no value", s)
		}
	}
}

func TestValueOfEachByte(t *testing.T) {
	for c := range 256 {
		want := 0x20 <= c && c <= 0x7E
		s := string([]byte{byte(c)})
		for _, x := range []string{s, s + "a", "a" + s, "a" + s + "a", s + s} {
			if got := label.Value(x); got != want {
				t.Errorf("%q: %v; want %v", x, got, want)
			}
		}
	}
}

func TestCheck(t *testing.T) {
	for _, s := range []label.Set{
		nil, {}, of("a", "x"), of("_", " "), of("a", "~"), of("a", "x", "b", "y"), of("a", "x", "aa", "x"), of("a", "x", "a0", "x", "a_", "x"),
		of("a0", "x", "a1", "x", "a_", "x", "aa", "x"), // by bytes
		of("_", "x", "a", "x"), of(longName, longValue), of("a", "\"\\"), many(16),
	} {
		if e := label.Check(s); e != api.OK {
			t.Errorf("%q: %v; want ok", s, e)
		}
	}
}

func TestCheckRefuses(t *testing.T) {
	for _, x := range []struct {
		s label.Set
		e api.Errno
	}{
		{many(17), api.ErrLong},
		{many(99), api.ErrLong},
		{of("", "x"), api.ErrName},
		{of("9a", "x"), api.ErrName},
		{of("A", "x"), api.ErrName},
		{of(longName+"n", "x"), api.ErrName},
		{of("a", "x", "b ", "y"), api.ErrName},
		{of("a", "x", "a", "x"), api.ErrTwice},
		{of("a", "x", "a", "y"), api.ErrTwice},
		{of("b", "x", "a", "y"), api.ErrTwice},
		{of("aa", "x", "a", "y"), api.ErrTwice},
		{of("aa", "x", "a_", "y"), api.ErrTwice},
		{of("a", "x", "c", "y", "b", "z"), api.ErrTwice},
		{of("a", "x", "b", "y", "a", "z"), api.ErrTwice},
		{of("a", ""), api.ErrArg},
		{of("a", longValue+"v"), api.ErrArg},
		{of("a", "\x1f"), api.ErrArg},
		{of("a", "\x7f"), api.ErrArg},
		{of("a", "x\n"), api.ErrArg},
		{of("a", "\u00e9"), api.ErrArg},
		{of("a", "x", "b", ""), api.ErrArg},
		{append(many(15), label.Label{Name: "m"}), api.ErrArg},
	} {
		if e := label.Check(x.s); e != x.e {
			t.Errorf("%q: %v; want %v", x.s, e, x.e)
		}
	}
}

// TestCheckTellsTheFirst holds the order of the errors: the count, then label by label name, order, value.
func TestCheckTellsTheFirst(t *testing.T) {
	for _, x := range []struct {
		s label.Set
		e api.Errno
	}{
		{make(label.Set, 17), api.ErrLong},
		{append(of("b", "", "a", "", "A", ""), many(14)...), api.ErrLong},
		{make(label.Set, 16), api.ErrName},
		{of("A", ""), api.ErrName},
		{of("b", "x", "A", ""), api.ErrName},            // not above the one ahead either
		{of("b", "x", "", ""), api.ErrName},             // likewise
		{of("a", "x", "a", ""), api.ErrTwice},           // ahead of its value
		{of("a", "", "a", "x"), api.ErrArg},             // the label ahead has it
		{of("a", "", "A", "x"), api.ErrArg},             // likewise
		{of("b", "x", "a", "y", "A", ""), api.ErrTwice}, // likewise
		{of("A", "x", "a", ""), api.ErrName},
		{of("b", "x", "A", "x", "a", "x"), api.ErrName},
	} {
		if e := label.Check(x.s); e != x.e {
			t.Errorf("%q: %v; want %v", x.s, e, x.e)
		}
	}
}

func TestCheckLeavesWhatIsHandedIn(t *testing.T) {
	for _, s := range []label.Set{nil, of("a", "x"), of("b", "x", "a", ""), many(16), many(17)} {
		room, untouched := guarded(t, s)
		label.Check(room)
		untouched("Check")
	}
}

func TestGet(t *testing.T) {
	s := of("a", "1", "bb", "2", "c", "3")
	for name, want := range map[string]string{"a": "1", "bb": "2", "c": "3", "b": "", "bbb": "", "": "", "_": "", "z": "", "A": "", "1": "", "a=": ""} {
		if got := label.Get(s, name); got != want {
			t.Errorf("%q: %q; want %q", name, got, want)
		}
	}
	for _, l := range many(16) {
		if got := label.Get(many(16), l.Name); got != l.Value {
			t.Errorf("%q: %q; want %q", l.Name, got, l.Value)
		}
	}
	for _, none := range []label.Set{nil, {}} {
		for _, name := range []string{"", "a"} {
			if got := label.Get(none, name); got != "" {
				t.Errorf("%q of no label: %q", name, got)
			}
		}
	}
	room, untouched := guarded(t, s)
	if got := label.Get(room, "spare"); got != "" {
		t.Errorf("the spare room is read: %q", got)
	}
	untouched("Get")
}

func TestWith(t *testing.T) {
	s := of("b", "1", "d", "2", "f", "3")
	for _, x := range []struct {
		s           label.Set
		name, value string
		want        label.Set
	}{
		// instead
		{s, "b", "x", of("b", "x", "d", "2", "f", "3")},
		{s, "d", "x", of("b", "1", "d", "x", "f", "3")},
		{s, "f", "x", of("b", "1", "d", "2", "f", "x")},
		{s, "d", "2", s},
		{of("a", "1"), "a", "2", of("a", "2")},
		// in its place
		{s, "a", "x", of("a", "x", "b", "1", "d", "2", "f", "3")},
		{s, "c", "x", of("b", "1", "c", "x", "d", "2", "f", "3")},
		{s, "e", "x", of("b", "1", "d", "2", "e", "x", "f", "3")},
		{s, "g", "x", of("b", "1", "d", "2", "f", "3", "g", "x")},
		{s, "bb", "x", of("b", "1", "bb", "x", "d", "2", "f", "3")},
		{s, "_", "x", of("_", "x", "b", "1", "d", "2", "f", "3")},
		{of("aa", "1"), "a", "2", of("a", "2", "aa", "1")},
		{of("a", "1"), "aa", "2", of("a", "1", "aa", "2")},
		{nil, "a", "x", of("a", "x")},
		{label.Set{}, "a", "x", of("a", "x")},
		{many(15), "l15", "v15", many(16)},
		{many(16)[1:], "l00", "v0", many(16)},
		{many(16), "l07", "v7", many(16)},
		// an empty value
		{s, "b", "", of("d", "2", "f", "3")},
		{s, "d", "", of("b", "1", "f", "3")},
		{s, "f", "", of("b", "1", "d", "2")},
		{s, "a", "", s},
		{s, "c", "", s},
		{s, "z", "", s},
		{s, "", "", s},
		{of("a", "1"), "a", "", nil},
		{nil, "a", "", nil},
		{nil, "", "", nil},
		{many(16), "l15", "", many(15)},
	} {
		room, untouched := guarded(t, x.s)
		same(t, fmt.Sprintf("%q with %q, %q", x.s, x.name, x.value), label.With(room, x.name, x.value), x.want)
		untouched("With")
	}
}

func TestWithTakesWhatNoNameOrValueIs(t *testing.T) {
	for _, x := range [][2]string{{"A", "x"}, {"", "x"}, {"9", "x"}, {"b", "\n"}, {"b", longValue + "v"}, {"\xff", "\xff"}} {
		s := label.With(of("a", "1", "c", "2"), x[0], x[1])
		if label.Get(s, x[0]) != x[1] || len(s) != 3 || label.Get(s, "a") != "1" || label.Get(s, "c") != "2" || !slices.IsSortedFunc(s, func(a, b label.Label) int { return strings.Compare(a.Name, b.Name) }) {
			t.Errorf("with %q: %q", x, s)
		}
	}
	same(t, "17 labels", label.With(many(16), "l16", "v16"), many(17))
}

func TestOnlyAndWithout(t *testing.T) {
	s := of("a", "1", "bb", "2", "c", "3", "d", "4")
	for _, x := range []struct {
		s             label.Set
		names         []string
		only, without label.Set
	}{
		{s, nil, nil, s},
		{s, []string{}, nil, s},
		{s, []string{"a"}, of("a", "1"), of("bb", "2", "c", "3", "d", "4")},
		{s, []string{"bb"}, of("bb", "2"), of("a", "1", "c", "3", "d", "4")},
		{s, []string{"d"}, of("d", "4"), of("a", "1", "bb", "2", "c", "3")},
		{s, []string{"d", "a"}, of("a", "1", "d", "4"), of("bb", "2", "c", "3")},
		{s, []string{"c", "bb", "z", "b", "bbb"}, of("bb", "2", "c", "3"), of("a", "1", "d", "4")},
		{s, []string{"c", "c", "c"}, of("c", "3"), of("a", "1", "bb", "2", "d", "4")},
		{s, []string{"d", "c", "bb", "a"}, s, nil},
		{s, []string{"z", "", "A", "1", "_", "b"}, nil, s},
		{of("a", "1"), []string{"a"}, of("a", "1"), nil},
		{nil, []string{"a", ""}, nil, nil},
		{nil, nil, nil, nil},
		{many(16), []string{"l15"}, many(16)[15:], many(15)},
		{many(16), []string{"l00"}, many(1), many(16)[1:]},
	} {
		room, untouched := guarded(t, x.s)
		names := append(slices.Clone(x.names), "spare")
		was := slices.Clone(names)
		handed := names[:len(x.names)]
		same(t, fmt.Sprintf("%q only %q", x.s, x.names), label.Only(room, handed), x.only)
		same(t, fmt.Sprintf("%q without %q", x.s, x.names), label.Without(room, handed), x.without)
		untouched("Only or Without")
		if !slices.Equal(names, was) {
			t.Errorf("the names are changed: %q; want %q", names, was)
		}
	}
}

// TestSetsAreNew writes all over an answer, its spare room too: neither what was handed in nor another answer may tell of it.
func TestSetsAreNew(t *testing.T) {
	for what, call := range map[string]func(label.Set) label.Set{
		"With what is there":        func(s label.Set) label.Set { return label.With(s, "b", "2") },
		"With what is new":          func(s label.Set) label.Set { return label.With(s, "z", "x") },
		"With the first":            func(s label.Set) label.Set { return label.With(s, "_", "x") },
		"With nothing":              func(s label.Set) label.Set { return label.With(s, "z", "") },
		"With one less":             func(s label.Set) label.Set { return label.With(s, "c", "") },
		"Only all":                  func(s label.Set) label.Set { return label.Only(s, []string{"a", "b", "c"}) },
		"Only the first":            func(s label.Set) label.Set { return label.Only(s, []string{"a"}) },
		"Without any":               func(s label.Set) label.Set { return label.Without(s, nil) },
		"Without the last":          func(s label.Set) label.Set { return label.Without(s, []string{"c"}) },
		"Without all, and no label": func(s label.Set) label.Set { return label.Without(s, []string{"a", "b", "c"}) },
	} {
		room, untouched := guarded(t, of("a", "1", "b", "2", "c", "3"))
		first, second := call(room), call(room)
		want := slices.Clone(second)
		_ = append(first, label.Label{Name: "behind", Value: "it"})
		for i := range first[:cap(first)] {
			first[:cap(first)][i] = label.Label{Name: "over", Value: "written"}
		}
		untouched(what)
		same(t, what, second, want)
		same(t, what+", again", call(room), want)
	}
}

// TestSetsAreNotKept changes what was handed in behind the call.
func TestSetsAreNotKept(t *testing.T) {
	s := of("a", "1", "b", "2")
	names := []string{"a"}
	with, only, without := label.With(s, "c", "3"), label.Only(s, names), label.Without(s, names)
	s[0], s[1], names[0] = label.Label{Name: "x", Value: "9"}, label.Label{}, "b"
	same(t, "With", with, of("a", "1", "b", "2", "c", "3"))
	same(t, "Only", only, of("a", "1"))
	same(t, "Without", without, of("b", "2"))
}

// TestSetsThatCheckDoesNotTake: only that each call ends, panics never and leaves what it is handed.
func TestSetsThatCheckDoesNotTake(t *testing.T) {
	for _, s := range []label.Set{of("b", "1", "a", "2", "b", "3"), make(label.Set, 20), of("A", "\x00", "", "\xff", "=", "\"", "\xff", ""), many(99)} {
		room, untouched := guarded(t, s)
		for _, name := range []string{"", "a", "b", "A", "\xff", "l50"} {
			label.Get(room, name)
			label.With(room, name, "x")
			label.With(room, name, "")
			label.Only(room, []string{name})
			label.Without(room, []string{name})
		}
		label.Text(room)
		label.Hash(room)
		label.Shard(room, 3)
		label.Compare(room, room)
		untouched("a call")
	}
}
