package match_test

import (
	"fmt"
	"regexp"
	"slices"
	"strings"
	"testing"

	"belfry/api"
	"belfry/label"
	"belfry/match"
)

// The tests here and in text_test.go are of P501, with P1 to P4, P6 and P8 as far as they bear on it.

// of tells matchers of names, Ops and values, one behind the other.
func of(l ...string) []match.Matcher {
	var all []match.Matcher
	for i := 0; i < len(l); i += 3 {
		all = append(all, match.Matcher{Name: l[i], Op: l[i+1], Value: l[i+2]})
	}
	return all
}

// many tells n matchers.
func many(n int) []match.Matcher {
	var all []match.Matcher
	for i := range n {
		all = append(all, of(fmt.Sprintf("m%02d", i), ops[i%4], fmt.Sprintf("v%d", i))...)
	}
	return all
}

// guarded tells l with spare room behind it that holds an item of its own, and a look whether all of that is untouched.
func guarded[E comparable](t *testing.T, l []E, spare E) ([]E, func(what string)) {
	t.Helper()
	room := append(slices.Clone(l), spare, spare)
	was := slices.Clone(room)
	return room[:len(l)], func(what string) {
		t.Helper()
		if !slices.Equal(room, was) {
			t.Errorf("%s changed what was handed in: %.99v; want %.99v", what, room, was)
		}
	}
}

var (
	ops       = []string{"=", "!=", "=~", "!~"}
	noOps     = []string{"", " ", "~", "!", "==", "=!", "~=", "=~~", "!~~", "!==", "=~ ", " =", "= ", "!=~", "!!", "=\x00", "=\"", "\xff", strings.Repeat("=", 1<<20)}
	longName  = strings.Repeat("n", 16)
	longValue = strings.Repeat("v", 64)
	spare     = match.Matcher{Name: "spare", Op: "!=", Value: "room"}
)

// checks sees to it that Check says e of l, each time, and leaves l as it was.
func checks(t *testing.T, l []match.Matcher, e api.Errno) {
	t.Helper()
	room, untouched := guarded(t, l, spare)
	for range 2 {
		if got := match.Check(room); got != e {
			t.Errorf("%.99q: %v; want %v", l, got, e)
		}
	}
	untouched("Check")
}

func TestCheck(t *testing.T) {
	for _, l := range [][]match.Matcher{
		nil, {}, of("a", "=", "x"), of("a", "!=", "x"), of("a", "=~", "x"), of("a", "!~", "x"),
		of("a", "=", ""), of("a", "!=", ""), // no pattern, but of these it may be empty
		of("_", "=", " "), of("a0_", "!=", "~"), of(longName, "=~", longValue),
		of("a", "=", "x", "a", "=", "x"), of("a", "=", "x", "a", "!=", "x"), of("b", "=", "x", "a", "=", "x"), of("c", "=", "1", "a", "=~", "2", "b", "!~", "3", "a", "!=", "4"), // neither once nor rising
		of("a", "=", "a**", "b", "!=", "("), of("a", "=", strings.Repeat("(", 64)), of("a", "!=", `\`), // patterns of the others alone
		of("a", "=~", "(web|db)-[0-9]+", "b", "!~", "q*"), of("a", "=~", `\"\\`), of("a", "!~", "((((((((("+"a"+")))))))))"),
		many(1), many(7), many(8),
	} {
		checks(t, l, api.OK)
	}
	for _, op := range ops {
		for _, value := range []string{longValue, strings.Repeat(" ", 64), strings.Repeat("~", 64), `"`, `\\`, "=", "!", "~", ",", "{", "}", `{a="b"}`, " ~"} {
			checks(t, of(longName, op, value, "_", op, value), api.OK)
		}
	}
}

func TestCheckRefusesNames(t *testing.T) {
	for _, name := range []string{"", "9", "9a", "A", "aB", "a-b", "a b", " a", "a ", "a=", "a!", "a~", "\"a\"", "{", "}", ",", "a\n", "\x00", "\xff", "\u00e9", longName + "n", strings.Repeat("a", 1<<20)} {
		for _, op := range append(ops, noOps...) {
			for _, value := range []string{"x", "", "\n", "a**", longValue + "v"} {
				checks(t, of(name, op, value), api.ErrName)
			}
		}
	}
}

func TestCheckRefusesOps(t *testing.T) {
	for _, op := range noOps {
		for _, value := range []string{"x", "", "\n", "a**", longValue + "v"} {
			checks(t, of("a", op, value), api.ErrForm)
		}
	}
}

func TestCheckRefusesValues(t *testing.T) {
	for _, op := range ops {
		for _, value := range []string{longValue + "v", strings.Repeat("a", 1<<20), strings.Repeat("(", 65), "\u00e9", strings.Repeat("\u00e9", 33), "x\n", "\nx", "a\tb", "**\x00", "[\xff", "(\x7f", strings.Repeat("(", 63) + "\x1f"} {
			checks(t, of("a", op, value), api.ErrArg)
		}
		for c := range 256 {
			e := api.ErrArg
			if 0x20 <= c && c <= 0x7E {
				e = api.OK
			}
			checks(t, of("a", op, `\`+string([]byte{byte(c)})), e)
		}
	}
}

func TestCheckRefusesPatterns(t *testing.T) {
	deep := strings.Repeat("(", 10)
	for _, x := range []struct {
		value string
		e     api.Errno
	}{
		{"", api.ErrForm}, {"*", api.ErrForm}, {"a**", api.ErrForm}, {"(", api.ErrForm}, {")", api.ErrForm}, {"()", api.ErrForm}, {"a|", api.ErrForm}, {"|", api.ErrForm}, {"[", api.ErrForm}, {"]", api.ErrForm}, {"[]", api.ErrForm}, {"[b-a]", api.ErrForm}, {"[a", api.ErrForm}, {`\`, api.ErrForm}, {longValue[:63] + "(", api.ErrForm}, {"*" + deep, api.ErrForm}, {deep[1:], api.ErrForm},
		{deep, api.ErrLong}, {deep + "a", api.ErrLong}, {deep + "a" + strings.Repeat(")", 10), api.ErrLong}, {strings.Repeat("(", 64), api.ErrLong}, {deep + "*", api.ErrLong},
	} {
		checks(t, of("a", "=~", x.value), x.e)
		checks(t, of("a", "!~", x.value), x.e)
		checks(t, of("a", "=", "x", "b", "!~", x.value), x.e)
		checks(t, of("a", "=", x.value), api.OK)
		checks(t, of("a", "!=", x.value), api.OK)
	}
}

// TestCheckTellsTheFirst holds the order of the errors: the count, then one by one name, Op, value, pattern.
func TestCheckTellsTheFirst(t *testing.T) {
	checks(t, many(9), api.ErrLong)
	checks(t, many(99), api.ErrLong)
	checks(t, make([]match.Matcher, 9), api.ErrLong)
	checks(t, make([]match.Matcher, 8), api.ErrName)
	for _, l := range [][]match.Matcher{of("A", "", "\n"), of("a", "", "\n"), of("a", "=~", "\n"), of("a", "=~", "*"), of("a", "!~", strings.Repeat("(", 10))} {
		checks(t, append(l, many(8)...), api.ErrLong)
		checks(t, append(many(8), l...), api.ErrLong)
	}
	wrong := []struct {
		l []match.Matcher
		e api.Errno
	}{
		{of("A", "", "\n"), api.ErrName}, {of("", "=~", "*"), api.ErrName}, {of("9", "=", "x"), api.ErrName},
		{of("a", "", "\n"), api.ErrForm}, {of("a", "==", "*"), api.ErrForm}, {of("a", "~", strings.Repeat("(", 10)), api.ErrForm},
		{of("a", "=", "\n"), api.ErrArg}, {of("a", "=~", "*\n"), api.ErrArg}, {of("a", "!~", strings.Repeat("(", 65)), api.ErrArg},
		{of("a", "=~", "*"), api.ErrForm}, {of("a", "!~", ""), api.ErrForm},
		{of("a", "=~", strings.Repeat("(", 10)), api.ErrLong},
	}
	for _, x := range wrong {
		for n := range 8 {
			checks(t, append(many(n), x.l...), x.e)
			checks(t, slices.Insert(many(7), n, x.l...), x.e)
		}
		for _, y := range wrong {
			checks(t, slices.Concat(x.l, y.l), x.e)
			checks(t, slices.Concat(many(3), x.l, many(2), y.l), x.e)
		}
	}
}

// holds sees to it that l holds of s, or does not, each time, and that both are left as they were.
func holds(t *testing.T, l []match.Matcher, s label.Set, want bool) {
	t.Helper()
	room, untouched := guarded(t, l, spare)
	set, setUntouched := guarded(t, s, label.Label{Name: "spare", Value: "room"})
	for range 2 {
		if got := match.Holds(room, set); got != want {
			t.Errorf("%q, %q: %v; want %v", l, s, got, want)
		}
	}
	untouched("Holds")
	setUntouched("Holds")
}

func TestHolds(t *testing.T) {
	s := label.Set{{Name: "_", Value: " "}, {Name: "a", Value: "xy"}, {Name: "b", Value: "9"}, {Name: "job", Value: "web-12"}}
	for _, x := range []struct {
		name, op, value string
		want            bool
	}{
		// alike, not alike
		{"a", "=", "xy", true}, {"a", "=", "x", false}, {"a", "=", "xyz", false}, {"a", "=", "y", false}, {"a", "=", "XY", false}, {"a", "=", "", false}, {"a", "=", "x.", false}, {"a", "=", "9", false}, {"a", "=", " xy", false}, {"b", "=", "9", true}, {"b", "=", "09", false}, {"_", "=", " ", true}, {"_", "=", "", false},
		{"a", "!=", "xy", false}, {"a", "!=", "x", true}, {"a", "!=", "xyz", true}, {"a", "!=", "", true}, {"a", "!=", "x.", true}, {"a", "!=", "9", true}, {"_", "!=", " ", false},
		// taken, not taken, as a whole
		{"a", "=~", "xy", true}, {"a", "=~", "x", false}, {"a", "=~", "y", false}, {"a", "=~", "xyz", false}, {"a", "=~", "x.", true}, {"a", "=~", "x.|z", true}, {"a", "=~", "x|y", false}, {"a", "=~", ".*", true}, {"a", "=~", "[x-z]+", true}, {"a", "=~", "z*", false}, {"b", "=~", "[0-9]", true}, {"b", "=~", "[^0-9]", false}, {"job", "=~", "(web|db)-[0-9]+", true}, {"job", "=~", "web", false}, {"job", "=~", "web.*", true}, {"_", "=~", " ?", true},
		{"a", "!~", "xy", false}, {"a", "!~", "x", true}, {"a", "!~", "x.|z", false}, {"a", "!~", ".*", false}, {"a", "!~", "z*", true}, {"job", "!~", "(web|db)-[0-9]+", false}, {"job", "!~", "web", true},
		// no such label: as if empty
		{"c", "=", "", true}, {"c", "=", "x", false}, {"c", "=", " ", false}, {"c", "!=", "", false}, {"c", "!=", "x", true},
		{"c", "=~", "q*", true}, {"c", "=~", "q?", true}, {"c", "=~", ".*", true}, {"c", "=~", "(a|b?)", true}, {"c", "=~", "q", false}, {"c", "=~", ".", false}, {"c", "=~", ".+", false}, {"c", "=~", "[^a]", false},
		{"c", "!~", "q*", false}, {"c", "!~", ".?", false}, {"c", "!~", "q", true}, {"c", "!~", ".+", true},
		{"jo", "=", "web-12", false}, {"jobs", "=", "web-12", false}, {"jo", "=", "", true}, {"jobs", "=", "", true}, {"spare", "=", "room", false}, {"spare", "=", "", true},
	} {
		holds(t, of(x.name, x.op, x.value), s, x.want)
		holds(t, of("b", "=", "9", x.name, x.op, x.value), s, x.want)
		holds(t, of(x.name, x.op, x.value, "b", "=", "9"), s, x.want)
		holds(t, of(x.name, x.op, x.value, x.name, x.op, x.value), s, x.want)
		holds(t, of("b", "=", "8", x.name, x.op, x.value), s, false)
		holds(t, of(x.name, x.op, x.value, "b", "!~", "."), s, false)
	}
}

// TestHoldsOfAll holds lists of one against the library, for values, patterns and labels that are there and that are not.
func TestHoldsOfAll(t *testing.T) {
	values := []string{"", " ", "~", "a", "b", "ab", "a b", `"`, `\`, `\\`, "=", "!", "~=", ",", "{", "}", "{}", "()", "[a]", ".", ".*", "*", "a*", "a|b", longValue, longValue[1:], strings.Repeat("~", 64)}
	for _, have := range values {
		var s label.Set
		if have != "" {
			s = label.Set{{Name: "m", Value: have}}
		}
		around := append(label.Set{{Name: "a", Value: "ab"}}, append(s, label.Label{Name: "z", Value: `\`})...)
		for _, value := range values {
			for _, set := range []label.Set{s, around} {
				holds(t, of("m", "=", value), set, have == value)
				holds(t, of("m", "!=", value), set, have != value)
			}
		}
		for _, value := range []string{"a", ".", ".*", ".+", ".?", "a*", "a|b", "(a|b)+", "[^a]", "[^a]*", " *", `\\`, `\\*`, `\"`, `"`, "=", "!|~=|,", "[{}]+", `\(\)`, `\[a\]`, `\.\*`, "v*", "v+v", longValue} {
			want := regexp.MustCompile("^(?:" + value + ")$").MatchString(have)
			for _, set := range []label.Set{s, around} {
				holds(t, of("m", "=~", value), set, want)
				holds(t, of("m", "!~", value), set, !want)
			}
		}
	}
}

func TestHoldsOfMany(t *testing.T) {
	s := label.Set{{Name: "a", Value: "1"}, {Name: "b", Value: "2"}, {Name: "c", Value: "3"}}
	for _, set := range []label.Set{nil, {}, s} {
		holds(t, nil, set, true)
		holds(t, []match.Matcher{}, set, true)
	}
	all := of("c", "=", "3", "a", "!=", "3", "b", "=~", "[12]", "a", "!~", "[23]", "d", "=", "", "a", "=", "1", "a", "=", "1", "b", "!=", "")
	for n := range len(all) + 1 {
		holds(t, all[:n], s, true)
	}
	for i := range all {
		for _, not := range [][]match.Matcher{of("a", "=", "2"), of("a", "!=", "1"), of("a", "=~", "2"), of("a", "!~", "1"), of("d", "!=", ""), of("d", "=~", ".")} {
			holds(t, slices.Replace(slices.Clone(all), i, i+1, not...), s, false)
		}
	}
	holds(t, of("a", "=", "1", "a", "=", "2"), s, false)
	holds(t, of("a", "!=", "1", "a", "!=", "2"), s, false)
	holds(t, of("a", "!=", "2", "a", "!=", "3"), s, true)
	holds(t, of("a", "=", "1", "a", "=~", "[0-9]", "a", "!=", ""), nil, false)
}

// TestHoldsTakesNotLong holds patterns that have very many ways through a value.
func TestHoldsTakesNotLong(t *testing.T) {
	s := label.Set{{Name: "a", Value: strings.Repeat("a", 64)}}
	for _, pattern := range []string{"(a*)*b", "(a|a)*b", "((a+)+)+b", strings.Repeat("a?", 31) + "b"} {
		l := slices.Repeat(of("a", "!~", pattern), 8)
		checks(t, l, api.OK)
		holds(t, l, s, true)
	}
}

// TestListsThatCheckDoesNotTake: only that each call ends, panics never and leaves what it is handed.
func TestListsThatCheckDoesNotTake(t *testing.T) {
	var lists [][]match.Matcher
	for _, op := range append(ops, noOps...) {
		for _, value := range []string{"", "*", "(", "[b-a]", `\`, "\x00", "\xff", `"`, strings.Repeat("(", 99), strings.Repeat("a", 1<<20)} {
			lists = append(lists, of("a", op, value), of("A", op, value, "", op, value))
		}
	}
	lists = append(lists, many(9), many(1000), make([]match.Matcher, 1000))
	for _, l := range lists {
		room, untouched := guarded(t, l, spare)
		for _, s := range []label.Set{nil, {{Name: "a", Value: "x"}}, make(label.Set, 20), {{Name: "A", Value: "\xff"}, {Name: "", Value: "\x00"}, {Name: "A", Value: strings.Repeat("a", 1<<10)}}} {
			set, setUntouched := guarded(t, s, label.Label{Name: "spare", Value: "room"})
			if match.Holds(room, set) != match.Holds(room, set) {
				t.Errorf("%.99q, %q: now so, now so", l, s)
			}
			setUntouched("Holds")
		}
		if match.Text(room) != match.Text(room) {
			t.Errorf("%.99q: now so, now so", l)
		}
		untouched("a call")
	}
}
