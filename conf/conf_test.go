package conf_test

import (
	"fmt"
	"math"
	"reflect"
	"slices"
	"strings"
	"testing"

	"belfry/conf"
	"belfry/label"
	"belfry/match"
)

// The tests of this folder are of P801, with P1 to P4, P6 and P8 as far as they bear on it.

const most = 1 << 42

var (
	longName  = strings.Repeat("n", 16)
	longValue = strings.Repeat("v", 64)
)

// of tells a set of names and values, one behind the other.
func of(l ...string) label.Set {
	var s label.Set
	for pair := range slices.Chunk(l, 2) {
		s = append(s, label.Label{Name: pair[0], Value: pair[1]})
	}
	return s
}

// by tells matchers of names, words between and values, one behind the other.
func by(l ...string) []match.Matcher {
	var m []match.Matcher
	for x := range slices.Chunk(l, 3) {
		m = append(m, match.Matcher{Name: x[0], Op: x[1], Value: x[2]})
	}
	return m
}

// many tells a set of n labels.
func many(n int) label.Set {
	var s label.Set
	for i := range n {
		s = append(s, of(fmt.Sprintf("l%02d", i), fmt.Sprintf("v%d", i))...)
	}
	return s
}

// manyBy tells n matchers.
func manyBy(n int) []match.Matcher {
	var m []match.Matcher
	for i := range n {
		m = append(m, by(fmt.Sprintf("m%02d", i), []string{"=", "!=", "=~", "!~"}[i%4], fmt.Sprintf("v%d", i))...)
	}
	return m
}

// manyNames tells n names.
func manyNames(n int) []string {
	var l []string
	for i := range n {
		l = append(l, fmt.Sprintf("n%02d", i))
	}
	return l
}

// to tells a route to that receiver, with those kids.
func to(name string, kids ...conf.Route) conf.Route { return conf.Route{To: name, Kids: kids} }

// made tells a configuration with two of all that there may be several of, and no part that is nought but what is told in texts as such.
func made() conf.Config {
	rule := func(n int64, name string, below bool) conf.Rule {
		return conf.Rule{
			Name: name, Kind: int(n), Agg: int(n + 1), Q: int(n + 2), Below: below,
			Raise: conf.Ratio{Num: n + 3, Den: n + 4}, Clear: conf.Ratio{Num: n + 5, Den: n + 6},
			Window: n + 7, Short: n + 8, For: n + 9, Keep: n + 10,
			Match: by("a", "=", "x", "b", "!=", "y"), Bad: by("c", "=~", "z", "d", "!~", "w"), Labels: of("e", "u", "f", "v"),
		}
	}
	route := func(n int64, name string, kids ...conf.Route) conf.Route {
		return conf.Route{Match: by("a", "=", "x", "b", "!=", "y"), By: []string{"g", "h"}, Wait: n, Interval: n + 1, Repeat: n + 2, To: name, Kids: kids}
	}
	return conf.Config{
		Grid: 1, Late: 2, Retain: 3, Idle: 4, Series: 5, Queue: 6, Outbox: 7,
		Rules: []conf.Rule{rule(10, "r", false), rule(30, "q", true)},
		Root: route(50, "one",
			route(60, "two", route(70, "three"), route(80, "four")),
			route(90, "five", route(100, "six"))),
		Inhibits: []conf.Inhibit{
			{Source: by("a", "=", "x", "b", "=", "y"), Target: by("c", "=", "z", "d", "=", "w"), Equal: []string{"i", "j"}},
			{Source: by("e", "=", "x", "f", "=", "y"), Target: by("g", "=", "z", "h", "=", "w"), Equal: []string{"k", "l"}},
		},
		Receivers: []conf.Receiver{{Name: "one", Base: 110, Cap: 111, Tries: 112}, {Name: "two", Base: 120, Cap: 121, Tries: 122}},
	}
}

// copied tells v in memory of its own, with so much spare room behind each list, and no list for an empty one.
// Whole: with what is in the spare room of the lists of v, too.
func copied(v reflect.Value, whole bool, room int) reflect.Value {
	own := reflect.New(v.Type()).Elem()
	switch v.Kind() {
	case reflect.Struct:
		for i := range v.NumField() {
			own.Field(i).Set(copied(v.Field(i), whole, room))
		}
	case reflect.Slice:
		if whole {
			v = v.Slice(0, v.Cap())
		}
		if v.Len()+room == 0 {
			break
		}
		l := reflect.MakeSlice(v.Type(), v.Len(), v.Len()+room)
		for i := range v.Len() {
			l.Index(i).Set(copied(v.Index(i), whole, room))
		}
		for i := range room {
			spoil(l.Slice(0, l.Cap()).Index(v.Len() + i))
		}
		own.Set(l)
	default:
		own.Set(v)
	}
	return own
}

// spoil sets all parts of v to others than any configuration here has.
func spoil(v reflect.Value) {
	switch v.Kind() {
	case reflect.Struct:
		for i := range v.NumField() {
			spoil(v.Field(i))
		}
	case reflect.String:
		v.SetString("spare room")
	case reflect.Bool:
		v.SetBool(!v.Bool())
	case reflect.Slice:
		v.SetZero()
	default:
		v.SetInt(-123456789)
	}
}

// plain tells c in memory of its own, no list for an empty one.
func plain(c conf.Config) conf.Config {
	return copied(reflect.ValueOf(c), false, 0).Interface().(conf.Config)
}

// alike tells by the library's means whether a and b are alike in all.
func alike(a, b conf.Config) bool { return reflect.DeepEqual(plain(a), plain(b)) }

// shown tells x as a text that may be cut.
func shown(x any) string { return fmt.Sprintf("%+v", x) }

// guarded tells c with spare room behind all lists, and a look whether all of that is untouched.
func guarded(t *testing.T, c conf.Config) (conf.Config, func(what string)) {
	t.Helper()
	room := copied(reflect.ValueOf(c), false, 2).Interface().(conf.Config)
	whole := func() any { return copied(reflect.ValueOf(room), true, 0).Interface() }
	was := whole()
	return room, func(what string) {
		t.Helper()
		if now := whole(); !reflect.DeepEqual(now, was) {
			t.Errorf("%s changed what was handed in: %.999s; want %.999s", what, shown(now), shown(was))
		}
	}
}

// parts tells all of v that something may be changed of: what is no list, and each list ahead of its elements.
func parts(v reflect.Value) []reflect.Value {
	var l []reflect.Value
	switch v.Kind() {
	case reflect.Struct:
		for i := range v.NumField() {
			l = append(l, parts(v.Field(i))...)
		}
	case reflect.Slice:
		l = append(l, v)
		for i := range v.Len() {
			l = append(l, parts(v.Index(i))...)
		}
	default:
		l = append(l, v)
	}
	return l
}

// changes tells what may be changed of v, so that it is another one.
func changes(v reflect.Value) []func(v reflect.Value) {
	switch v.Kind() {
	case reflect.String:
		return []func(v reflect.Value){
			func(v reflect.Value) { v.SetString("") },
			func(v reflect.Value) { v.SetString(v.String() + "x") },
			func(v reflect.Value) { v.SetString("x" + v.String()) },
			func(v reflect.Value) { v.SetString(strings.ToUpper(v.String()) + "\x00") },
		}
	case reflect.Bool:
		return []func(v reflect.Value){func(v reflect.Value) { v.SetBool(!v.Bool()) }}
	case reflect.Slice:
		return []func(v reflect.Value){
			func(v reflect.Value) { v.SetZero() },
			func(v reflect.Value) { v.Set(v.Slice(0, 1)) },
			func(v reflect.Value) { v.Set(v.Slice(1, v.Len())) },
			func(v reflect.Value) { v.Set(reflect.Append(v, reflect.Zero(v.Type().Elem()))) },
			func(v reflect.Value) { v.Set(reflect.Append(v, v.Index(v.Len()-1))) },
			func(v reflect.Value) { v.Set(reflect.Append(v.Slice(1, v.Len()), v.Index(0))) },
		}
	}
	l := []func(v reflect.Value){func(v reflect.Value) { v.SetInt(0) }}
	for _, d := range []int64{1, -1, 2, 1 << 31, 1 << 32, 1 << 62, math.MinInt64} {
		l = append(l, func(v reflect.Value) { v.SetInt(v.Int() + d) })
	}
	return l
}

// sames sees to it that Same tells want of a and b, each time and turned about, and leaves both as they were.
func sames(t *testing.T, a, b conf.Config, want bool) {
	t.Helper()
	left, leftUntouched := guarded(t, a)
	right, rightUntouched := guarded(t, b)
	for range 2 {
		if conf.Same(left, right) != want || conf.Same(right, left) != want {
			t.Errorf("%.999s and %.999s: %v; want %v", shown(a), shown(b), !want, want)
		}
	}
	leftUntouched("Same")
	rightUntouched("Same")
}

// TestSameTellsApart changes each part of a configuration, one by one.
func TestSameTellsApart(t *testing.T) {
	one := made()
	count := 0
	for i, part := range parts(reflect.ValueOf(&one).Elem()) {
		if part.Kind() == reflect.Slice && part.Len() == 0 {
			continue // of kids; what is appended there is held by the shapes of trees
		}
		for k, change := range changes(part) {
			c := plain(made())
			change(parts(reflect.ValueOf(&c).Elem())[i])
			count++
			if alike(c, made()) {
				if part.Kind() != reflect.Slice || part.Len() > 1 {
					t.Errorf("part %d, change %d: nothing changed", i, k)
				}
				continue // a list of one, turned round
			}
			sames(t, c, made(), false)
			sames(t, c, plain(c), true)
		}
	}
	if count < 800 {
		t.Errorf("%d changes only", count)
	}
}

func TestSameOfAll(t *testing.T) {
	all := good()
	for i := range all {
		all[i] = plain(all[i])
	}
	for i, a := range all {
		sames(t, a, a, true)
		for _, b := range all[:i] {
			if want := reflect.DeepEqual(a, b); conf.Same(a, b) != want || conf.Same(b, a) != want {
				t.Errorf("%.999s and %.999s: %v; want %v", shown(a), shown(b), !want, want)
			}
		}
	}
}

// TestSameLooksAtNamesOneByOne: lists that have one text are told apart by it.
func TestSameLooksAtNamesOneByOne(t *testing.T) {
	lists := [][]string{nil, {""}, {"-"}, {"a,b"}, {"a", "b"}, {"a", "b", ""}, {"", ""}, {","}}
	for i, a := range lists {
		for k, b := range lists {
			sames(t, conf.Config{Root: conf.Route{By: a}}, conf.Config{Root: conf.Route{By: b}}, i == k)
			sames(t, conf.Config{Inhibits: []conf.Inhibit{{Equal: a}}}, conf.Config{Inhibits: []conf.Inhibit{{Equal: b}}}, i == k)
		}
	}
}

// TestSameLooksAtWhereRoutesLie: routes one behind the other that are alike, in trees of all shapes.
func TestSameLooksAtWhereRoutesLie(t *testing.T) {
	all := shapes(6)
	for i, a := range all {
		for k, b := range all {
			if got := conf.Same(conf.Config{Root: tree(a, "x")}, conf.Config{Root: tree(b, "x")}); got != (i == k) {
				t.Errorf("%v and %v: %v", a, b, got)
			}
		}
	}
}

func TestNoListIsAnEmptyOne(t *testing.T) {
	none := conf.Config{Rules: make([]conf.Rule, 1), Root: conf.Route{Kids: make([]conf.Route, 1)}, Inhibits: make([]conf.Inhibit, 1)}
	empty := conf.Config{
		Rules:     []conf.Rule{{Match: by()[:0:0], Bad: []match.Matcher{}, Labels: label.Set{}}},
		Root:      conf.Route{Match: []match.Matcher{}, By: []string{}, Kids: []conf.Route{{Match: []match.Matcher{}, By: []string{}, Kids: []conf.Route{}}}},
		Inhibits:  []conf.Inhibit{{Source: []match.Matcher{}, Target: []match.Matcher{}, Equal: []string{}}},
		Receivers: []conf.Receiver{},
	}
	sames(t, none, empty, true)
	texts(t, none, wrote(none))
	texts(t, empty, wrote(none))
	none, empty = conf.Config{}, conf.Config{Rules: []conf.Rule{}, Inhibits: []conf.Inhibit{}, Receivers: []conf.Receiver{}}
	sames(t, none, empty, true)
	texts(t, none, wrote(none))
	texts(t, empty, wrote(none))
}
