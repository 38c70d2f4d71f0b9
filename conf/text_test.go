package conf_test

import (
	"cmp"
	"fmt"
	"math"
	"reflect"
	"runtime/debug"
	"slices"
	"strings"
	"testing"
	"unsafe"

	"belfry/api"
	"belfry/conf"
	"belfry/label"
	"belfry/match"
)

// The two lines that no text goes without.
const (
	setLine = "set 0 0 0 0 0 0 0\n"
	topLine = "route 0 - - 0 0 0 a\n"
)

const sixteen = `{l00="v0",l01="v1",l02="v2",l03="v3",l04="v4",l05="v5",l06="v6",l07="v7",l08="v8",l09="v9",l10="v10",l11="v11",l12="v12",l13="v13",l14="v14",l15="v15"}`

// madeText is the text of made.
const madeText = `set 1ms 2ms 3ms 4 5 6 7
rule r 10 11 12 above 13/14 15/16 17ms 18ms 19ms 20ms {a="x",b!="y"} {c=~"z",d!~"w"} {e="u",f="v"}
rule q 30 31 32 below 33/34 35/36 37ms 38ms 39ms 40ms {a="x",b!="y"} {c=~"z",d!~"w"} {e="u",f="v"}
route 0 {a="x",b!="y"} g,h 50ms 51ms 52ms one
route 1 {a="x",b!="y"} g,h 60ms 61ms 62ms two
route 2 {a="x",b!="y"} g,h 70ms 71ms 72ms three
route 2 {a="x",b!="y"} g,h 80ms 81ms 82ms four
route 1 {a="x",b!="y"} g,h 90ms 91ms 92ms five
route 2 {a="x",b!="y"} g,h 100ms 101ms 102ms six
inhibit {a="x",b="y"} {c="z",d="w"} i,j
inhibit {e="x",f="y"} {g="z",h="w"} k,l
receiver one 110ms 111ms 112
receiver two 120ms 121ms 122
`

// written: configurations with their texts.
var written = []struct {
	c conf.Config
	s string
}{
	{made(), madeText},
	{conf.Config{Root: to("a")}, setLine + topLine},
	{conf.Config{}, setLine + "route 0 - - 0 0 0 \n"},
	{conf.Config{Grid: 60000, Late: 90000, Retain: most, Idle: 1, Series: 256, Queue: 1024, Outbox: 1024, Root: conf.Route{By: []string{"job"}, Wait: 30000, Interval: 300000, Repeat: 14400000, To: "ops"}},
		"set 1m 1m30s 50903d7h35m11s104ms 1 256 1024 1024\nroute 0 - job 30s 5m 4h ops\n"},
	{conf.Config{Idle: math.MaxInt64, Series: math.MinInt64, Queue: -1, Outbox: math.MinInt64 + 1, Root: to("-")},
		"set 0 0 0 9223372036854775807 -9223372036854775808 -1 -9223372036854775807\nroute 0 - - 0 0 0 -\n"},
	{conf.Config{Rules: []conf.Rule{{Name: "high", Kind: 1, Agg: 7, Q: 99, Raise: conf.Ratio{Num: 3, Den: 2}, Clear: conf.Ratio{Num: -1, Den: 1}, Window: 3600000}}, Root: to("a")},
		setLine + "rule high 1 7 99 above 3/2 -1/1 1h 0 0 0 - - -\n" + topLine},
	{conf.Config{Rules: []conf.Rule{{Name: longName, Kind: 3, Below: true, Raise: conf.Ratio{Num: math.MaxInt64, Den: math.MinInt64}, Clear: conf.Ratio{Num: math.MinInt64, Den: math.MaxInt64}, Keep: most, Match: manyBy(8), Bad: by("a", "=", longValue), Labels: many(16)}}, Root: to("a")},
		setLine + "rule " + longName + ` 3 0 0 below 9223372036854775807/-9223372036854775808 -9223372036854775808/9223372036854775807 0 0 0 50903d7h35m11s104ms {m00="v0",m01!="v1",m02=~"v2",m03!~"v3",m04="v4",m05!="v5",m06=~"v6",m07!~"v7"} {a="` + longValue + `"} ` + sixteen + "\n" + topLine},
	{conf.Config{Rules: []conf.Rule{{Name: "a", Labels: of("a", "x")}, {Name: "b", Bad: by("a", "!=", "")}, {Name: "c", Match: by("a", "!~", "x|y")}, {Name: "d"}}, Root: to("a")},
		setLine + `rule a 0 0 0 above 0/0 0/0 0 0 0 0 - - {a="x"}` + "\n" + `rule b 0 0 0 above 0/0 0/0 0 0 0 0 - {a!=""} -` + "\n" + `rule c 0 0 0 above 0/0 0/0 0 0 0 0 {a!~"x|y"} - -` + "\nrule d 0 0 0 above 0/0 0/0 0 0 0 0 - - -\n" + topLine},
	{conf.Config{Rules: []conf.Rule{{Name: "a", Match: by("a", "=", " ", "b", "=~", "} {", "c", "!=", `"} {"`), Bad: by("a", "=", `\`, "b", "=", `" `), Labels: of("a", "b c  d", "e", "{}", "f", `\"}`, "g", ",", "h", " } ", "i", `\\ "`)}}, Root: conf.Route{Match: by("a", "=", "} "), To: "a"}},
		setLine + `rule a 0 0 0 above 0/0 0/0 0 0 0 0 {a=" ",b=~"} {",c!="\"} {\""} {a="\\",b="\" "} {a="b c  d",e="{}",f="\\\"}",g=",",h=" } ",i="\\\\ \""}` + "\nroute 0 {a=\"} \"} - 0 0 0 a\n"},
	{conf.Config{Root: to("a", to("b"))}, setLine + topLine + "route 1 - - 0 0 0 b\n"},
	{conf.Config{Root: to("a", to("b"), to("c"), to("d"))}, setLine + topLine + "route 1 - - 0 0 0 b\nroute 1 - - 0 0 0 c\nroute 1 - - 0 0 0 d\n"},
	{conf.Config{Root: to("a", to("b", to("c", to("d"))))}, setLine + topLine + "route 1 - - 0 0 0 b\nroute 2 - - 0 0 0 c\nroute 3 - - 0 0 0 d\n"},
	{conf.Config{Root: to("a", to("b", to("c", to("d")), to("e")), to("f", to("g")), to("h"))},
		setLine + topLine + "route 1 - - 0 0 0 b\nroute 2 - - 0 0 0 c\nroute 3 - - 0 0 0 d\nroute 2 - - 0 0 0 e\nroute 1 - - 0 0 0 f\nroute 2 - - 0 0 0 g\nroute 1 - - 0 0 0 h\n"},
	{conf.Config{Root: to("a", to("b", to("c", to("d", to("e")))), to("f"))},
		setLine + topLine + "route 1 - - 0 0 0 b\nroute 2 - - 0 0 0 c\nroute 3 - - 0 0 0 d\nroute 4 - - 0 0 0 e\nroute 1 - - 0 0 0 f\n"},
	{conf.Config{Root: to("a"), Inhibits: []conf.Inhibit{{}}}, setLine + topLine + "inhibit - - -\n"},
	{conf.Config{Root: to("a"), Inhibits: []conf.Inhibit{{Source: by("a", "=", "x y")}, {Target: by("b", "!=", "}")}, {Equal: []string{"job"}}, {Equal: manyNames(4)}}},
		setLine + topLine + "inhibit {a=\"x y\"} - -\ninhibit - {b!=\"}\"} -\ninhibit - - job\ninhibit - - n00,n01,n02,n03\n"},
	{conf.Config{Root: to("a"), Receivers: []conf.Receiver{{Name: "ops"}}}, setLine + topLine + "receiver ops 0 0 0\n"},
	{conf.Config{Root: to("a"), Receivers: []conf.Receiver{{Name: "ops", Base: 1000, Cap: most, Tries: math.MaxInt64}, {Name: "ops", Base: 1, Tries: math.MinInt64}, {Name: "-"}}},
		setLine + topLine + "receiver ops 1s 50903d7h35m11s104ms 9223372036854775807\nreceiver ops 1ms 0 -9223372036854775808\nreceiver - 0 0 0\n"},
	{conf.Config{Root: to("set"), Rules: []conf.Rule{{Name: "route"}}, Inhibits: []conf.Inhibit{{Equal: []string{"rule", "set"}}}, Receivers: []conf.Receiver{{Name: "inhibit"}}},
		setLine + "rule route 0 0 0 above 0/0 0/0 0 0 0 0 - - -\nroute 0 - - 0 0 0 set\ninhibit - - rule,set\nreceiver inhibit 0 0 0\n"},
}

// listed tells a word as texts have lists, items with a `,` between.
func listed(n int, left, right string, item func(i int) string) string {
	if n == 0 {
		return "-"
	}
	var l []string
	for i := range n {
		l = append(l, item(i))
	}
	return left + strings.Join(l, ",") + right
}

// quoted tells s as texts have values.
func quoted(s string) string {
	return `"` + strings.NewReplacer(`"`, `\"`, `\`, `\\`).Replace(s) + `"`
}

func wroteBy(m []match.Matcher) string {
	return listed(len(m), "{", "}", func(i int) string { return m[i].Name + m[i].Op + quoted(m[i].Value) })
}

func wroteSet(s label.Set) string {
	return listed(len(s), "{", "}", func(i int) string { return s[i].Name + "=" + quoted(s[i].Value) })
}

func wroteNames(l []string) string { return listed(len(l), "", "", func(i int) string { return l[i] }) }

// wroteSpan tells d as texts have spans.
func wroteSpan(d int64) string {
	s := ""
	for _, u := range []struct {
		size int64
		word string
	}{{86400000, "d"}, {3600000, "h"}, {60000, "m"}, {1000, "s"}, {1, "ms"}} {
		if d >= u.size {
			s += fmt.Sprint(d/u.size) + u.word
		}
		d %= u.size
	}
	if s == "" {
		return "0"
	}
	return s
}

// wroteRoutes tells the lines of r and of all below it.
func wroteRoutes(r conf.Route, deep int) string {
	s := fmt.Sprintln("route", deep, wroteBy(r.Match), wroteNames(r.By), wroteSpan(r.Wait), wroteSpan(r.Interval), wroteSpan(r.Repeat), r.To)
	for _, kid := range r.Kids {
		s += wroteRoutes(kid, deep+1)
	}
	return s
}

// wrote tells c as the promise has it.
func wrote(c conf.Config) string {
	s := fmt.Sprintln("set", wroteSpan(c.Grid), wroteSpan(c.Late), wroteSpan(c.Retain), c.Idle, c.Series, c.Queue, c.Outbox)
	for _, r := range c.Rules {
		side := map[bool]string{false: "above", true: "below"}[r.Below]
		ratio := func(r conf.Ratio) string { return fmt.Sprintf("%d/%d", r.Num, r.Den) }
		s += fmt.Sprintln("rule", r.Name, r.Kind, r.Agg, r.Q, side, ratio(r.Raise), ratio(r.Clear), wroteSpan(r.Window), wroteSpan(r.Short), wroteSpan(r.For), wroteSpan(r.Keep), wroteBy(r.Match), wroteBy(r.Bad), wroteSet(r.Labels))
	}
	s += wroteRoutes(c.Root, 0)
	for _, i := range c.Inhibits {
		s += fmt.Sprintln("inhibit", wroteBy(i.Source), wroteBy(i.Target), wroteNames(i.Equal))
	}
	for _, r := range c.Receivers {
		s += fmt.Sprintln("receiver", r.Name, wroteSpan(r.Base), wroteSpan(r.Cap), r.Tries)
	}
	return s
}

// shapes tells how deep the routes of each tree of up to n lie, one behind the other.
func shapes(n int) [][]int {
	all := [][]int{{0}}
	for i := 0; i < len(all); i++ {
		if s := all[i]; len(s) < n {
			for deep := 1; deep <= s[len(s)-1]+1; deep++ {
				all = append(all, append(slices.Clone(s), deep))
			}
		}
	}
	return all
}

// tree tells a root with the routes of that shape below it, all to that receiver.
func tree(shape []int, name string) conf.Route {
	var kids []conf.Route
	for i := 1; i < len(shape); {
		end := i + 1
		for end < len(shape) && shape[end] > shape[i] {
			end++
		}
		kids = append(kids, tree(shape[i:end], name))
		i = end
	}
	return to(name, kids...)
}

// numbered tells r with receivers by their place, from n on, and how many there are.
func numbered(r conf.Route, n int) (conf.Route, int) {
	r.To = fmt.Sprint("to", n)
	n++
	r.Kids = slices.Clone(r.Kids)
	for i := range r.Kids {
		r.Kids[i], n = numbered(r.Kids[i], n)
	}
	return r, n
}

// good tells configurations that Parse reads back as they were.
func good() []conf.Config {
	var l []conf.Config
	for _, w := range written {
		l = append(l, w.c)
	}
	// Each number and span at its ends, each side and name.
	one := made()
	for i, part := range parts(reflect.ValueOf(&one).Elem()) {
		put := func(x any) {
			c := plain(made())
			p := parts(reflect.ValueOf(&c).Elem())[i]
			p.Set(reflect.ValueOf(x).Convert(p.Type()))
			l = append(l, c)
		}
		switch part.Kind() {
		case reflect.Int:
			for _, n := range []int64{0, -1, 9, 10, -10, math.MaxInt64, math.MaxInt64 - 1, math.MinInt64, math.MinInt64 + 1} {
				put(n)
			}
		case reflect.Bool:
			put(true)
			put(false)
		case reflect.Slice:
			put(reflect.Zero(part.Type()).Interface())
		}
	}
	for _, d := range []int64{0, 1, 999, 1000, 60000, 3600000, 86399999, 86400000, 93784005, most - 1, most} {
		l = append(l, conf.Config{
			Grid: d, Late: most - d, Retain: d, Rules: []conf.Rule{{Window: d, Short: most - d, For: d, Keep: most - d}},
			Root: conf.Route{Wait: d, Interval: most - d, Repeat: d, To: "a"}, Receivers: []conf.Receiver{{Base: d, Cap: most - d}},
		})
	}
	for _, n := range []int64{0, -1, math.MaxInt64, math.MinInt64} {
		l = append(l, conf.Config{Rules: []conf.Rule{{Raise: conf.Ratio{Num: n, Den: 1}, Clear: conf.Ratio{Num: 2, Den: n}}, {Raise: conf.Ratio{Num: 1, Den: n}, Clear: conf.Ratio{Num: n, Den: 2}}}})
	}
	// Values of each byte, alone and beside those that matter.
	for c := ' '; c <= '~'; c++ {
		for _, d := range ` "\{},=-a` {
			v, w := string(c)+string(d), string(d)+string(c)
			m, s := by("a", "=", v, "b", "!=", w, "c", "=~", `\`+string(c)+" ", "a", "=", ""), of("a", v, "b", w, "c", string(c))
			l = append(l, conf.Config{Rules: []conf.Rule{{Match: m, Bad: m, Labels: s}}, Root: conf.Route{Match: m, Kids: []conf.Route{{Match: m}}}, Inhibits: []conf.Inhibit{{Source: m}, {Target: m}}})
		}
	}
	// As many of each as there may be, and more where nothing of this layer says how many.
	for n := range 17 {
		r := conf.Rule{Match: manyBy(n % 9), Bad: manyBy(8 - n%9), Labels: many(n)}
		l = append(l, conf.Config{Rules: slices.Repeat([]conf.Rule{r}, n), Root: conf.Route{By: manyNames(n), Kids: slices.Repeat([]conf.Route{to("a")}, n)}, Inhibits: slices.Repeat([]conf.Inhibit{{Equal: manyNames(16 - n)}}, n), Receivers: slices.Repeat([]conf.Receiver{{}}, n)})
	}
	l = append(l, conf.Config{Rules: make([]conf.Rule, 99), Root: conf.Route{By: manyNames(99), Kids: make([]conf.Route, 99)}, Inhibits: make([]conf.Inhibit, 99), Receivers: make([]conf.Receiver, 99)})
	// Names that are like other words.
	for _, x := range []string{"", "-", "--", "}", "a}", "a{", "/", "0", "above", "set", `"`, `\`, "\x00", "\t", "\r", "\xff", "\u00e9", "A-B.c", strings.Repeat("n", 1<<16)} {
		l = append(l, conf.Config{Rules: []conf.Rule{{Name: x}}, Root: conf.Route{By: []string{"a", x + "b", "c" + x}, To: x}, Inhibits: []conf.Inhibit{{Equal: []string{x + "x"}}}, Receivers: []conf.Receiver{{Name: x}}})
	}
	for _, shape := range shapes(6) {
		root, _ := numbered(tree(shape, ""), 0)
		l = append(l, conf.Config{Root: root})
	}
	return l
}

// texts sees to it that Text writes c as s, each time, and leaves c as it was.
func texts(t *testing.T, c conf.Config, s string) {
	t.Helper()
	room, untouched := guarded(t, c)
	for range 2 {
		if got := conf.Text(room); got != s {
			t.Errorf("%.999s: %.999s; want %.999s", shown(c), got, s)
		}
	}
	untouched("Text")
}

// parse tells what Parse does of s, and sees to it that it tells the same again.
func parse(t *testing.T, s string) (conf.Config, int, api.Errno) {
	t.Helper()
	c, at, e := conf.Parse(s)
	if again, place, err := conf.Parse(s); err != e || place != at || !alike(again, c) {
		t.Errorf("%.999s: now %.999s, %d, %v, now %.999s, %d, %v", s, shown(c), at, e, shown(again), place, err)
	}
	return c, at, e
}

// parses sees to it that Parse reads s as c.
func parses(t *testing.T, s string, c conf.Config) {
	t.Helper()
	if got, at, e := parse(t, s); e != api.OK || at != 0 || !alike(got, c) || !conf.Same(got, c) {
		t.Errorf("%.999s: %.999s, %d, %v; want %.999s", s, shown(got), at, e, shown(c))
	}
}

func TestTextAndParse(t *testing.T) {
	for _, w := range written {
		if got := wrote(w.c); got != w.s {
			t.Errorf("%.999s: the tests' own text is %s; want %s", shown(w.c), got, w.s)
		}
		texts(t, w.c, w.s)
		parses(t, w.s, w.c)
	}
}

func TestParseReadsWhatTextWrites(t *testing.T) {
	l := good()
	for _, c := range l {
		texts(t, c, wrote(c))
		parses(t, conf.Text(c), c)
		read, _, _ := conf.Parse(conf.Text(c))
		texts(t, read, wrote(c))
	}
	if len(l) < 1000 {
		t.Errorf("%d configurations only", len(l))
	}
}

// TestTextOfWhatMayNotBe: nothing is promised of the text but that there is one.
func TestTextOfWhatMayNotBe(t *testing.T) {
	for _, x := range []string{" ", ",", "a b", "a,b", "\n", "{a b", "{ }", " set "} {
		c := conf.Config{Rules: []conf.Rule{{Name: x, Match: by(x, x, x), Bad: by("", "", ""), Labels: of(x, x)}}, Root: conf.Route{By: []string{x, "", x}, To: x}, Inhibits: []conf.Inhibit{{Equal: []string{x}}}, Receivers: []conf.Receiver{{Name: x}}}
		texts(t, c, conf.Text(c))
		parse(t, conf.Text(c))
	}
	for _, d := range []int64{-1, most + 1, math.MaxInt64, math.MinInt64} {
		c := conf.Config{Grid: d, Root: conf.Route{Wait: d}, Receivers: []conf.Receiver{{Cap: d}}}
		texts(t, c, conf.Text(c))
		parse(t, conf.Text(c))
	}
}

// lies is from where, and up to where, something lies in memory.
type lies struct{ from, to uintptr }

// memory tells where the lists of c lie, their spare room too, and where its texts do.
func memory(c *conf.Config) (lists, texts []lies) {
	for _, p := range parts(reflect.ValueOf(c).Elem()) {
		switch p.Kind() {
		case reflect.Slice:
			if from := uintptr(p.UnsafePointer()); p.Cap() > 0 {
				lists = append(lists, lies{from, from + uintptr(p.Cap())*p.Type().Elem().Size()})
			}
		case reflect.String:
			texts = append(texts, at(p.String()))
		}
	}
	return lists, texts
}

// at tells where s lies in memory.
func at(s string) lies {
	from := uintptr(unsafe.Pointer(unsafe.StringData(s)))
	return lies{from, from + uintptr(len(s))}
}

// share tells whether something lies in both.
func share(a, b lies) bool { return max(a.from, b.from) < min(a.to, b.to) }

// TestParsedIsNew: no two lists, of an answer or of two, share any memory, and nothing of an answer lies in the text.
func TestParsedIsNew(t *testing.T) {
	for _, c := range good() {
		s := strings.Clone(conf.Text(c))
		first, _, _ := conf.Parse(s)
		second, _, _ := conf.Parse(s)
		lists, texts := memory(&first)
		more, _ := memory(&second)
		lists = append(lists, more...)
		slices.SortFunc(lists, func(a, b lies) int { return cmp.Or(cmp.Compare(a.from, b.from), cmp.Compare(a.to, b.to)) })
		for i := 1; i < len(lists); i++ {
			if share(lists[i-1], lists[i]) {
				t.Errorf("%.199s: two lists share memory", s)
			}
		}
		for _, x := range slices.Concat(lists, texts) {
			if share(x, at(s)) {
				t.Errorf("%.199s: is kept", s)
			}
		}
	}
}

// TestParsedIsTheirs: what is done to an answer changes no other one.
func TestParsedIsTheirs(t *testing.T) {
	first, _, _ := conf.Parse(madeText)
	second, _, _ := conf.Parse(madeText)
	for _, p := range parts(reflect.ValueOf(&first).Elem()) {
		if p.Kind() == reflect.Slice {
			for i := range p.Cap() {
				spoil(p.Slice(0, p.Cap()).Index(i))
			}
		}
	}
	if !alike(second, made()) {
		t.Errorf("another answer changed: %.999s", shown(second))
	}
	parses(t, madeText, made())
}

// TestRoutesOfAnyDepth: as many below each other as there is room for, with little room for calls in calls.
func TestRoutesOfAnyDepth(t *testing.T) {
	defer debug.SetMaxStack(debug.SetMaxStack(1 << 20))
	const n = 200000
	var s strings.Builder
	s.WriteString(setLine)
	for i := range n {
		fmt.Fprintf(&s, "route %d - - 0 0 0 a\n", i)
	}
	for i := n - 1; i > 0; i-- {
		fmt.Fprintf(&s, "route %d - - 0 0 0 b\n", i)
	}
	c, at, e := conf.Parse(s.String())
	if e != api.OK || at != 0 {
		t.Fatalf("%d, %v", at, e)
	}
	if conf.Text(c) != s.String() {
		t.Error("another text")
	}
	other, _, _ := conf.Parse(s.String())
	if !conf.Same(c, other) {
		t.Error("one is told apart from itself")
	}
	last := &other.Root
	for len(last.Kids) > 0 {
		last = &last.Kids[0]
	}
	last.To = "x"
	if conf.Same(c, other) || conf.Same(other, c) {
		t.Error("two are the same that differ far below")
	}
}
