package json_test

import (
	"fmt"
	"math"
	"reflect"
	"slices"
	"strings"
	"testing"

	"belfry/api"
	"belfry/json"
	"belfry/label"
)

// The tests here and in text_test.go are of P701, with P1 to P4, P6 and P8 as far as they bear on it.

// of tells a set of names and values, one behind the other.
func of(l ...string) label.Set {
	var s label.Set
	for pair := range slices.Chunk(l, 2) {
		s = append(s, label.Label{Name: pair[0], Value: pair[1]})
	}
	return s
}

// many tells a set of n labels.
func many(n int) label.Set {
	var s label.Set
	for i := range n {
		s = append(s, of(fmt.Sprintf("l%02d", i), fmt.Sprintf("v%d", i))...)
	}
	return s
}

// item tells one of these parts.
func item(status, rule string, labels label.Set, since int64) json.Item {
	return json.Item{Status: status, Rule: rule, Labels: labels, Since: since}
}

// items tells n items, each other than the one ahead.
func items(n int) []json.Item {
	var l []json.Item
	for i := range n {
		l = append(l, item([]string{"firing", "resolved"}[i%2], "r", of("place", fmt.Sprint(i)), int64(i)))
	}
	return l
}

// note tells one of these parts.
func note(key, to string, group label.Set, at int64, items ...json.Item) json.Note {
	return json.Note{Key: key, To: to, Group: group, At: at, Items: items}
}

// made tells a note that Check takes, with two of all that there may be several of.
func made() json.Note {
	return note("k", "ops", of("a", "x", "b", "y"), 70, item("firing", "r", of("c", "z", "d", "w"), 60), item("resolved", "q", of("e", "u", "f", "v"), 50))
}

const (
	most     = 1 << 42
	mostKey  = 4096
	mostList = 8192
)

var (
	longName  = strings.Repeat("n", 16)
	longValue = strings.Repeat("v", 64)
	spare     = label.Label{Name: "spare", Value: "room"}
)

// plain tells n in memory of its own, no list for an empty one.
func plain(n json.Note) json.Note {
	n.Group = append(label.Set(nil), n.Group...)
	n.Items = append([]json.Item(nil), n.Items...)
	for i := range n.Items {
		n.Items[i].Labels = append(label.Set(nil), n.Items[i].Labels...)
	}
	return n
}

// alike tells by the library's means whether a and b are alike in all.
func alike(a, b json.Note) bool { return reflect.DeepEqual(plain(a), plain(b)) }

// roomy tells s with spare room behind it that holds a label of its own.
func roomy(s label.Set) label.Set { return append(slices.Clone(s), spare, spare)[:len(s)] }

// guarded tells n with spare room behind all lists, and a look whether all of that is untouched.
func guarded(t *testing.T, n json.Note) (json.Note, func(what string)) {
	t.Helper()
	const more = 2
	n = plain(n)
	n.Group = roomy(n.Group)
	for i := range n.Items {
		n.Items[i].Labels = roomy(n.Items[i].Labels)
	}
	n.Items = append(n.Items, slices.Repeat([]json.Item{item("spare", "room", of("spare", "room"), -1)}, more)...)[:len(n.Items)]
	whole := func() json.Note {
		n := n
		n.Group = n.Group[:len(n.Group)+more]
		n.Items = n.Items[:len(n.Items)+more]
		n = plain(n)
		for i := range n.Items[:len(n.Items)-more] {
			l := n.Items[i].Labels
			n.Items[i].Labels = append(l, l[:cap(l)][len(l):]...)
		}
		return n
	}
	was := whole()
	return n, func(what string) {
		t.Helper()
		if !alike(whole(), was) {
			t.Errorf("%s changed what was handed in: %.99v; want %.99v", what, whole(), was)
		}
	}
}

// checks sees to it that Check says e of n, each time, and leaves n as it was.
func checks(t *testing.T, n json.Note, e api.Errno) {
	t.Helper()
	room, untouched := guarded(t, n)
	for range 2 {
		if got := json.Check(room); got != e {
			t.Errorf("%.199v: %v; want %v", n, got, e)
		}
	}
	untouched("Check")
}

// eachByte: all bytes that keys and values may have.
func eachByte() string {
	var b []byte
	for c := byte(0x20); c <= 0x7E; c++ {
		b = append(b, c)
	}
	return string(b)
}

// good tells notes that Check takes.
func good() []json.Note {
	l := []json.Note{made(), note("", "a", nil, 0), note("", "a", label.Set{}, 0, []json.Item{}...), {To: "_"}}
	for _, key := range []string{"", " ", "~", "  ", "k", eachByte(), strings.Repeat("k", mostKey-1), strings.Repeat(" ", mostKey), strings.Repeat("~", mostKey), strings.Repeat(`"`, mostKey), strings.Repeat(`\`, mostKey)} {
		l = append(l, note(key, "ops", nil, 70))
	}
	for _, name := range []string{"a", "z", "_", "a0_", "firing", longName} {
		l = append(l, note("k", name, nil, 70, item("firing", name, nil, 60), item("resolved", name, nil, 60)))
	}
	for _, labels := range []label.Set{nil, {}, of("a", "x"), of("_", " "), of("a", "~"), of("job", "web", "zone", "eu 1"), of("a", eachByte()[:64], "b", eachByte()[64:]), of(longName, longValue), many(2), many(15), many(16)} {
		l = append(l, note("k", "ops", labels, 70), note("k", "ops", nil, 70, item("firing", "r", labels, 60)), note("k", "ops", labels, 70, item("resolved", "r", labels, 60), item("firing", "r", labels, 60)))
	}
	for _, time := range []int64{0, 1, 9, 10, 99, 100, 1234567890, 1763500000000, most - 1, most} {
		l = append(l, note("k", "ops", nil, time), note("k", "ops", nil, 70, item("firing", "r", nil, time)), note("k", "ops", nil, time, item("firing", "r", nil, most-time), item("resolved", "r", nil, time)))
	}
	for _, text := range []string{`"`, `\`, "{", "}", "[", "]", ",", ":", " ", "{}", "[]", `""`, `\\`, `\"`, `"\`, `","`, `":"`, `"}`, `"]`, `"}]}`, `\u0041`, `\n`, "/", "<", ">", "&", "'", "-0", `,"to":"x"`, `{"key":"k"}`} {
		l = append(l, note(text, "ops", of("a", text), 70, item("firing", "r", of("a", text, "b", text), 60)), note(text+text, "ops", of("a", "x"+text, "b", text+"x"), 70))
	}
	for _, n := range []int{1, 2, 3, 99, mostList - 1, mostList} {
		l = append(l, note("k", "ops", nil, 70, items(n)...))
	}
	alike := item("firing", "r", of("a", "x"), 60)
	return append(l, note("k", "ops", nil, 70, alike, alike, alike), note("k", "ops", nil, 1, item("firing", "r", nil, 2)))
}

func TestCheck(t *testing.T) {
	for _, n := range good() {
		checks(t, n, api.OK)
	}
}

// fault is a part of a note made wrong, and what is said of that.
type fault struct {
	part   int // in the promise's order
	change func(n *json.Note)
	e      api.Errno
}

// noSets: what label.Check refuses.
var noSets = []struct {
	labels label.Set
	e      api.Errno
}{
	{many(17), api.ErrLong}, {many(99), api.ErrLong}, {make(label.Set, 17), api.ErrLong},
	{of("", "x"), api.ErrName}, {of("A", "x"), api.ErrName}, {of("9", "x"), api.ErrName}, {of(`a"`, "x"), api.ErrName}, {of("a", "x", "B", ""), api.ErrName}, {of(longName+"n", "x"), api.ErrName}, {make(label.Set, 16), api.ErrName},
	{of("a", "x", "a", ""), api.ErrTwice}, {of("b", "x", "a", "y"), api.ErrTwice}, {append(many(15), of("a", "x")...), api.ErrTwice},
	{of("a", ""), api.ErrArg}, {of("a", "\n"), api.ErrArg}, {of("a", "\x1f"), api.ErrArg}, {of("a", "\x7f"), api.ErrArg}, {of("a", "\xff"), api.ErrArg}, {of("a", longValue+"v"), api.ErrArg}, {of("a", "x", "b", ""), api.ErrArg}, {of("a", "", "B", "x"), api.ErrArg},
}

var (
	noTimes    = []int64{-1, -2, -70, most + 1, most + 2, 1 << 43, math.MaxInt64, math.MinInt64, math.MinInt64 + 70}
	noNames    = []string{"", "A", "Ops", "9", "0a", " ", "a b", "a-b", "a.b", `a"`, `\`, "a\n", "\x00", "\xff", "\u00e9", "a=", longName + "n", strings.Repeat("a", 5000)}
	noStatuses = []string{"", "Firing", "FIRING", "firin", "firing ", " firing", "firingg", "resolve", "Resolved", "resolved\x00", "resolvedfiring", "pending", "inactive", "f", `"firing"`, `firing"`, `\`, "\n", "\xff", strings.Repeat("firing", 5000)}
)

// faults tells all that notes with two items are refused for, the parts in the promise's order.
func faults() []fault {
	var l []fault
	part := 0
	add := func(e api.Errno, change func(n *json.Note)) { l = append(l, fault{part, change, e}) }
	for c := range 256 {
		if c < 0x20 || c > 0x7E {
			add(api.ErrArg, func(n *json.Note) { n.Key = "k" + string([]byte{byte(c)}) + n.Key })
		}
	}
	add(api.ErrArg, func(n *json.Note) { n.Key += "\u00e9" })
	add(api.ErrArg, func(n *json.Note) { n.Key = "\ufffd" + n.Key })
	part++
	for _, more := range []int{mostKey, mostKey + 1, 1 << 20} {
		add(api.ErrLong, func(n *json.Note) { n.Key += strings.Repeat("k", more) })
	}
	part++
	for _, name := range noNames {
		add(api.ErrName, func(n *json.Note) { n.To = name })
	}
	part++
	for _, x := range noSets {
		add(x.e, func(n *json.Note) { n.Group = x.labels })
	}
	part++
	for _, time := range noTimes {
		add(api.ErrArg, func(n *json.Note) { n.At = time })
	}
	part++
	for _, more := range []int{mostList - 1, mostList} {
		add(api.ErrLong, func(n *json.Note) { n.Items = append(slices.Clone(n.Items), items(more)...) })
	}
	for i := range made().Items {
		part++
		for _, status := range noStatuses {
			add(api.ErrForm, func(n *json.Note) { n.Items[i].Status = status })
		}
		part++
		for _, name := range noNames {
			add(api.ErrName, func(n *json.Note) { n.Items[i].Rule = name })
		}
		part++
		for _, x := range noSets {
			add(x.e, func(n *json.Note) { n.Items[i].Labels = x.labels })
		}
		part++
		for _, time := range noTimes {
			add(api.ErrArg, func(n *json.Note) { n.Items[i].Since = time })
		}
	}
	return l
}

func TestCheckRefuses(t *testing.T) {
	for _, x := range noSets {
		if e := label.Check(x.labels); e != x.e {
			t.Errorf("%.99v: label.Check says %v; want %v", x.labels, e, x.e)
		}
	}
	for _, f := range faults() {
		n := made()
		f.change(&n)
		checks(t, n, f.e)
	}
	checks(t, json.Note{}, api.ErrName)
	checks(t, note("k", "ops", nil, 70, json.Item{}), api.ErrForm)
	checks(t, note("k", "ops", nil, 70, item("firing", "", nil, 0)), api.ErrName)
	checks(t, note(strings.Repeat("k", mostKey+1), "ops", nil, 70), api.ErrLong)
	checks(t, note("k", "ops", nil, 70, items(mostList+1)...), api.ErrLong)
	checks(t, note("k", "ops", nil, 70, make([]json.Item, mostList+1)...), api.ErrLong)
}

// TestCheckTellsTheFirst puts a fault of each part beside one of each part behind it.
func TestCheckTellsTheFirst(t *testing.T) {
	var ends []fault // the first and the last of each part
	all := faults()
	for i, f := range all {
		if i == 0 || i == len(all)-1 || all[i-1].part != f.part || all[i+1].part != f.part {
			ends = append(ends, f)
		}
	}
	count := 0
	for _, first := range ends {
		for _, second := range ends {
			if first.part < second.part {
				n := made()
				second.change(&n)
				first.change(&n)
				if e := json.Check(n); e != first.e {
					t.Errorf("parts %d and %d: %v; want %v", first.part, second.part, e, first.e)
				}
				count++
			}
		}
	}
	if count < 300 {
		t.Errorf("%d pairs only", count)
	}
}

// TestCheckLooksAtEachItem puts the only fault in each place of some, and in the last place of all that there may be.
func TestCheckLooksAtEachItem(t *testing.T) {
	for _, x := range []struct {
		count, place int
	}{{1, 0}, {9, 0}, {9, 1}, {9, 7}, {9, 8}, {mostList, 0}, {mostList, mostList - 1}} {
		for e, change := range map[api.Errno]func(i *json.Item){
			api.ErrForm:  func(i *json.Item) { i.Status = "" },
			api.ErrName:  func(i *json.Item) { i.Rule = "" },
			api.ErrTwice: func(i *json.Item) { i.Labels = of("a", "x", "a", "x") },
			api.ErrArg:   func(i *json.Item) { i.Since = -1 },
		} {
			n := note("k", "ops", nil, 70, items(x.count)...)
			change(&n.Items[x.place])
			checks(t, n, e)
		}
	}
}

// sames sees to it that Same tells want of a and b, each time and turned about, and leaves both as they were.
func sames(t *testing.T, a, b json.Note, want bool) {
	t.Helper()
	left, leftUntouched := guarded(t, a)
	right, rightUntouched := guarded(t, b)
	for range 2 {
		if json.Same(left, right) != want || json.Same(right, left) != want {
			t.Errorf("%.199v and %.199v: %v; want %v", a, b, !want, want)
		}
	}
	leftUntouched("Same")
	rightUntouched("Same")
}

// parted: changes of one part each that notes like made's are told apart by.
var parted = []func(n *json.Note){
	func(n *json.Note) { n.Key = "" },
	func(n *json.Note) { n.Key = "K" },
	func(n *json.Note) { n.Key = "k " },
	func(n *json.Note) { n.Key = "k\x00" },
	func(n *json.Note) { n.Key = strings.Repeat("k", mostKey+1) },
	func(n *json.Note) { n.To = "" },
	func(n *json.Note) { n.To = "op" },
	func(n *json.Note) { n.To = "opss" },
	func(n *json.Note) { n.Group = nil },
	func(n *json.Note) { n.Group = of("a", "x") },
	func(n *json.Note) { n.Group = of("b", "y") },
	func(n *json.Note) { n.Group = of("b", "y", "a", "x") },
	func(n *json.Note) { n.Group = of("a", "x", "b", "y", "c", "z") },
	func(n *json.Note) { n.Group = of("a", "x", "b", "y", "b", "y") },
	func(n *json.Note) { n.Group = of("a", `x",b="y`) },
	func(n *json.Note) { n.Group[0].Name = "_" },
	func(n *json.Note) { n.Group[1].Name = "bb" },
	func(n *json.Note) { n.Group[0].Value = "X" },
	func(n *json.Note) { n.Group[1].Value = "" },
	func(n *json.Note) { n.At = 0 },
	func(n *json.Note) { n.At = 71 },
	func(n *json.Note) { n.At = -70 },
	func(n *json.Note) { n.At += 1 << 32 },
	func(n *json.Note) { n.At += math.MinInt64 },
	func(n *json.Note) { n.Items = nil },
	func(n *json.Note) { n.Items = n.Items[:1] },
	func(n *json.Note) { n.Items = n.Items[1:] },
	func(n *json.Note) { n.Items = append(n.Items, n.Items[1]) },
	func(n *json.Note) { n.Items = append(n.Items, json.Item{}) },
	func(n *json.Note) { n.Items[0], n.Items[1] = n.Items[1], n.Items[0] },
	func(n *json.Note) { n.Items[1] = n.Items[0] },
	func(n *json.Note) { n.Items[0].Status = "resolved" },
	func(n *json.Note) { n.Items[1].Status = "firing" },
	func(n *json.Note) { n.Items[1].Status = "" },
	func(n *json.Note) { n.Items[0].Rule = "q" },
	func(n *json.Note) { n.Items[1].Rule = "r" },
	func(n *json.Note) { n.Items[0].Labels = nil },
	func(n *json.Note) { n.Items[0].Labels = n.Items[0].Labels[:1] },
	func(n *json.Note) { n.Items[1].Labels = n.Items[1].Labels[1:] },
	func(n *json.Note) { n.Items[1].Labels = n.Items[0].Labels },
	func(n *json.Note) { n.Items[0].Labels[0].Name = "cc" },
	func(n *json.Note) { n.Items[0].Labels[1].Value = "W" },
	func(n *json.Note) { n.Items[1].Labels[0].Value = "" },
	func(n *json.Note) { n.Items[1].Labels[1].Name = "g" },
	func(n *json.Note) { n.Items[0].Since = 61 },
	func(n *json.Note) { n.Items[1].Since = -50 },
	func(n *json.Note) { n.Items[1].Since += 1 << 32 },
	func(n *json.Note) { n.Items[0].Since, n.Items[1].Since = 50, 60 },
}

func TestSame(t *testing.T) {
	all := append(good(), json.Note{}, note("", "", make(label.Set, 1), 0), note("", "", nil, 0, json.Item{}), note("k", "ops", nil, 70, items(mostList+1)...))
	for _, change := range parted {
		n := made()
		change(&n)
		sames(t, n, made(), false)
		all = append(all, n)
	}
	for _, n := range all {
		sames(t, n, n, true)
	}
	// The first places of the longest lists are alike, and the last ones are not.
	n := note("k", "ops", many(16), 70, items(mostList)...)
	last := plain(n)
	last.Items[mostList-1].Labels[0].Value = "x"
	sames(t, n, last, false)
	last = plain(n)
	last.Group[15].Value = "x"
	sames(t, n, last, false)
}

// TestSameOfAll holds Same against the library for all pairs of few parts.
func TestSameOfAll(t *testing.T) {
	all := []json.Note{{}}
	grow := func(changes ...func(n *json.Note)) {
		for _, n := range slices.Clone(all) {
			for _, change := range changes {
				n := plain(n)
				change(&n)
				all = append(all, n)
			}
		}
	}
	grow(func(n *json.Note) { n.Key = "a" })
	grow(func(n *json.Note) { n.To = "a" })
	grow(func(n *json.Note) { n.Group = of("a", "x") }, func(n *json.Note) { n.Group = of("a", "") })
	grow(func(n *json.Note) { n.At = 1 })
	grow(func(n *json.Note) { n.Items = items(1) }, func(n *json.Note) { n.Items = items(2) }, func(n *json.Note) { n.Items = make([]json.Item, 2) })
	for i, a := range all {
		for k, b := range all {
			if got := json.Same(a, b); got != (i == k) || got != alike(a, b) {
				t.Errorf("%v and %v: %v", a, b, got)
			}
		}
	}
}

func TestNoListIsAnEmptyOne(t *testing.T) {
	none := note("k", "ops", nil, 70)
	empty := json.Note{Key: "k", To: "ops", Group: label.Set{}, At: 70, Items: []json.Item{}}
	sames(t, none, empty, true)
	checks(t, empty, api.OK)
	none = note("k", "ops", nil, 70, item("firing", "r", nil, 60))
	empty = note("k", "ops", label.Set{}, 70, item("firing", "r", label.Set{}, 60))
	sames(t, none, empty, true)
	checks(t, empty, api.OK)
	encodes(t, empty, wrote(none))
	encodes(t, none, wrote(none))
}

// TestSameLooksAtNothingElse: neither at where a note lies, nor at what is behind its lists.
func TestSameLooksAtNothingElse(t *testing.T) {
	room := made()
	room.Group = append(room.Group, spare)[:2]
	room.Items = append(room.Items, item("spare", "room", nil, 9))[:2]
	room.Items[0].Labels = append(room.Items[0].Labels, spare)[:2]
	room.Key = strings.Join([]string{"", "k"}, "")
	if !json.Same(room, made()) || !json.Same(made(), room) {
		t.Error("spare room is looked at")
	}
}
