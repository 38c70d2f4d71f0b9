package valid_test

import (
	"fmt"
	"math"
	"reflect"
	"slices"
	"strings"
	"testing"

	"belfry/api"
	"belfry/conf"
	"belfry/label"
	"belfry/match"
	"belfry/valid"
)

// The tests of this folder are of P901, with P1 to P3, P6 and P7 as far as they bear on it.

const most = 1 << 42

var longName = strings.Repeat("n", 16)

// of tells a set of names and values, one behind the other.
func of(l ...string) label.Set {
	var s label.Set
	for pair := range slices.Chunk(l, 2) {
		s = append(s, label.Label{Name: pair[0], Value: pair[1]})
	}
	return s
}

// by tells matchers of names, words between and values, one behind the other.
func by(l ...string) []match.Matcher {
	var m []match.Matcher
	for x := range slices.Chunk(l, 3) {
		m = append(m, match.Matcher{Name: x[0], Op: x[1], Value: x[2]})
	}
	return m
}

// names tells n names that rise.
func names(n int) []string {
	var l []string
	for i := range n {
		l = append(l, fmt.Sprintf("n%02d", i))
	}
	return l
}

// many tells a set of n labels.
func many(n int) label.Set {
	var s label.Set
	for _, name := range names(n) {
		s = append(s, of(name, "v")...)
	}
	return s
}

// manyBy tells n matchers.
func manyBy(n int) []match.Matcher { return slices.Repeat(by("a", "=", "x"), n) }

// over tells num by den.
func over(num, den int64) conf.Ratio { return conf.Ratio{Num: num, Den: den} }

// to tells a route to that receiver, with nothing wrong but what is wrong with its kids.
func to(name string, kids ...conf.Route) conf.Route {
	return conf.Route{Interval: 300, Repeat: 4000, To: name, Kids: kids}
}

// made tells a configuration with nothing wrong: rules of all kinds, five routes, and a receiver that is told nothing.
func made() conf.Config {
	c := conf.Config{
		Grid: 10, Late: 5, Retain: 1000, Idle: 30, Series: 90, Queue: 91, Outbox: 92,
		Rules: []conf.Rule{
			{Name: "high", Kind: api.Threshold, Agg: api.Quantile, Q: 50, Raise: over(3, 2), Clear: over(1, 1), Window: 100, For: 7, Keep: 8, Match: by("a", "=", "x", "b", "!~", "y|z"), Labels: of("sev", "page")},
			{Name: "burn", Kind: api.Burn, Agg: api.Sum, Raise: over(1, 9), Clear: over(1, 10), Window: 200, Short: 20, Match: by("a", "!=", ""), Bad: by("code", "=~", "5.."), Labels: of("sev", "page", "team", "web")},
			{Name: "absent", Kind: api.Absent, Agg: api.Count, Below: true, Raise: over(-3, 2), Clear: over(-1, 1), Window: 300},
		},
		Root: to("ops",
			to("dev", to("ops"), to("dev")),
			to("ops")),
		Inhibits: []conf.Inhibit{
			{Source: by("sev", "=", "page"), Target: by("sev", "!=", "page"), Equal: []string{"job", "zone"}},
			{Source: by("a", "=", "x")},
		},
		Receivers: []conf.Receiver{{Name: "ops", Base: 10, Cap: 90, Tries: 3}, {Name: "dev", Tries: 100}, {Name: "spare", Base: 5, Cap: 5, Tries: 1}},
	}
	c.Root.By, c.Root.Wait = []string{"job", "rule"}, 30
	c.Root.Kids[0].Match, c.Root.Kids[0].By = by("team", "=", "web"), []string{"zone"}
	return c
}

// routes tells all routes of c, as chapter 8 counts them.
func routes(c *conf.Config) []*conf.Route {
	var l []*conf.Route
	var below func(r *conf.Route)
	below = func(r *conf.Route) {
		l = append(l, r)
		for i := range r.Kids {
			below(&r.Kids[i])
		}
	}
	below(&c.Root)
	return l
}

// text tells what is wrong as Error does, "" for nothing.
func text(f *valid.Fault) string {
	if f == nil {
		return ""
	}
	return fmt.Sprintf("%s %d: %s", f.Part, f.At, f.Err.Error())
}

// says sees to it that Check says want of c.
func says(t *testing.T, what string, c conf.Config, want string) {
	t.Helper()
	if got := text(valid.Check(c)); got != want {
		t.Errorf("%s: %q; want %q: %.999s", what, got, want, fmt.Sprintf("%+v", c))
	}
}

func TestError(t *testing.T) {
	for _, x := range []struct {
		f    valid.Fault
		want string
	}{
		{valid.Fault{}, " 0: ok"},
		{valid.Fault{Part: "set", Err: api.ErrArg}, "set 0: arg"},
		{valid.Fault{Part: "set", At: 7, Err: api.ErrLong}, "set 7: long"},
		{valid.Fault{Part: "rule", At: 10, Err: api.ErrName}, "rule 10: name"},
		{valid.Fault{Part: "route", At: 15, Err: api.ErrTwice}, "route 15: twice"},
		{valid.Fault{Part: "inhibit", At: 1, Err: api.ErrForm}, "inhibit 1: form"},
		{valid.Fault{Part: "receiver", At: -1, Err: api.ErrDown}, "receiver -1: down"},
		{valid.Fault{Part: "a b:\x00\xff", At: math.MaxInt64, Err: api.ErrOver}, "a b:\x00\xff 9223372036854775807: over"},
		{valid.Fault{Part: "p", At: math.MinInt64, Err: -7}, "p -9223372036854775808: error"},
	} {
		f := x.f
		for range 2 {
			if got := f.Error(); got != x.want {
				t.Errorf("%q; want %q", got, x.want)
			}
		}
		if f != x.f {
			t.Errorf("%q changed it: %+v", x.want, f)
		}
	}
	for e := api.OK; e <= api.ErrDown+1; e++ {
		if got, want := (&valid.Fault{Part: "p", At: 1, Err: e}).Error(), "p 1: "+e.Error(); got != want {
			t.Errorf("%q; want %q", got, want)
		}
	}
	var e error = valid.Check(conf.Config{})
	if e.Error() != "set 0: arg" {
		t.Errorf("%q", e.Error())
	}
}

func TestNothingWrong(t *testing.T) {
	least := conf.Config{
		Grid: 1, Retain: 1, Idle: 1, Series: 1, Queue: 1, Outbox: 1,
		Root:      conf.Route{Interval: 1, Repeat: 1, To: "a"},
		Receivers: []conf.Receiver{{Name: "a", Tries: 1}},
	}
	says(t, "the least", least, "")
	says(t, "one of each", made(), "")
	full := made()
	full.Grid, full.Late, full.Retain, full.Idle, full.Series, full.Queue, full.Outbox = most, most, most, 1000000, 256, 1024, 1024
	full.Rules, full.Inhibits, full.Receivers = nil, nil, nil
	for i, name := range names(16) {
		r := conf.Rule{
			Name: name, Kind: api.Burn, Agg: 1 + i%7, Raise: over(math.MaxInt64, 1), Clear: over(0, math.MaxInt64), Window: most, Short: most, For: most, Keep: most,
			Match: manyBy(8), Bad: manyBy(8), Labels: many(16),
		}
		full.Rules = append(full.Rules, r)
		full.Receivers = append(full.Receivers, conf.Receiver{Name: name, Base: most, Cap: most, Tries: 100})
	}
	for range 8 {
		full.Inhibits = append(full.Inhibits, conf.Inhibit{Source: manyBy(8), Target: manyBy(8), Equal: names(16)})
	}
	full.Root = conf.Route{}
	for i := range 15 {
		full.Root.Kids = append(full.Root.Kids, conf.Route{Match: manyBy(i % 9)})
	}
	for i, r := range routes(&full) {
		r.By, r.Wait, r.Interval, r.Repeat, r.To = names(16), most, most, most, names(16)[i]
	}
	says(t, "the most", full, "")
}

// TestHowMany: as many of each as may be, and more.
func TestHowMany(t *testing.T) {
	for n := range 40 {
		x := []struct {
			what string
			set  func(c *conf.Config)
			most int
		}{
			{"rules", func(c *conf.Config) {
				c.Rules = nil
				for _, name := range names(n) {
					c.Rules = append(c.Rules, made().Rules[n%3])
					c.Rules[len(c.Rules)-1].Name = name
				}
			}, 16},
			{"inhibits", func(c *conf.Config) { c.Inhibits = make([]conf.Inhibit, n) }, 8},
			{"receivers", func(c *conf.Config) {
				c.Receivers = c.Receivers[:2]
				for _, name := range names(n) {
					c.Receivers = append(c.Receivers, conf.Receiver{Name: name, Tries: 1})
				}
			}, 14},
			{"routes side by side", func(c *conf.Config) { c.Root.Kids = slices.Repeat([]conf.Route{to("dev")}, n) }, 15},
			{"routes two by two", func(c *conf.Config) {
				c.Root.Kids = slices.Repeat([]conf.Route{to("dev", to("ops"))}, n)
			}, 7},
			{"routes below the last one", func(c *conf.Config) { *routes(c)[4] = to("dev", slices.Repeat([]conf.Route{to("dev")}, n)...) }, 11},
			{"routes below the first one", func(c *conf.Config) { *routes(c)[2] = to("dev", slices.Repeat([]conf.Route{to("dev")}, n)...) }, 11},
		}
		for _, x := range x {
			c, want := made(), ""
			if n > x.most {
				want = "set 7: long"
			}
			x.set(&c)
			says(t, fmt.Sprintf("%d %s", n, x.what), c, want)
		}
	}
}

// chain tells a route with so many below one another.
func chain(n int) conf.Route {
	r := to("ops")
	for range n {
		r = to("ops", r)
	}
	return r
}

// TestHowDeep: routes below one another, alone and behind others.
func TestHowDeep(t *testing.T) {
	for n := range 40 {
		want := ""
		switch {
		case n > 15:
			want = "set 7: long"
		case n > 8:
			want = "route 9: long"
		}
		c := made()
		c.Root = chain(n)
		says(t, fmt.Sprintf("%d below the root", n), c, want)

		want = ""
		switch {
		case n > 10:
			want = "set 7: long"
		case n > 7:
			want = "route 13: long" // the root, 4 kids, one with n below it, of which the 8th lies 9 deep
		}
		c.Root = to("ops", to("dev"), to("dev", to("ops")), to("dev"), chain(n))
		says(t, fmt.Sprintf("%d below the last kid", n), c, want)
	}
}

// shapes tells how deep each route lies, for all trees of n.
func shapes(n int) [][]int {
	if n == 1 {
		return [][]int{{0}}
	}
	var all [][]int
	for _, s := range shapes(n - 1) {
		for deep := 1; deep <= s[len(s)-1]+1; deep++ {
			all = append(all, append(slices.Clone(s), deep))
		}
	}
	return all
}

// tree tells routes that lie so deep, one behind the other.
func tree(deep []int) conf.Route {
	r := to("ops")
	for i := 1; i < len(deep); i++ {
		if deep[i] != deep[0]+1 {
			continue
		}
		end := i + 1
		for end < len(deep) && deep[end] > deep[i] {
			end++
		}
		r.Kids = append(r.Kids, tree(deep[i:end]))
	}
	return r
}

// TestWhichRoute: a route stands where its line stands among those of routes.
func TestWhichRoute(t *testing.T) {
	for _, s := range shapes(6) {
		c := made()
		c.Root = tree(s)
		says(t, "a tree", c, "")
		for i := range s {
			c.Root = tree(s)
			routes(&c)[i].To = "nobody"
			at := 0
			for line := range strings.Lines(conf.Text(c)) {
				if strings.HasSuffix(line, " nobody\n") {
					break
				}
				if strings.HasPrefix(line, "route ") {
					at++
				}
			}
			says(t, fmt.Sprint(s), c, fmt.Sprintf("route %d: name", at))
		}
	}
}

// copied tells v in memory of its own, with so much spare room behind each list; whole: with what is in the spare room of the lists of v, too.
func copied(v reflect.Value, whole bool, room int) reflect.Value {
	own := reflect.New(v.Type()).Elem()
	own.Set(v)
	switch v.Kind() {
	case reflect.Struct:
		for i := range v.NumField() {
			own.Field(i).Set(copied(v.Field(i), whole, room))
		}
	case reflect.Slice:
		if whole {
			v = v.Slice(0, v.Cap())
		}
		l := reflect.MakeSlice(v.Type(), v.Len()+room, v.Len()+room)
		for i := range v.Len() {
			l.Index(i).Set(copied(v.Index(i), whole, room))
		}
		own.Set(l.Slice(0, v.Len()))
	}
	return own
}

// plain tells c in memory of its own, with so much spare room behind each list, none of them nil.
func plain(c conf.Config, room int) conf.Config {
	return copied(reflect.ValueOf(c), false, room).Interface().(conf.Config)
}

// TestWhatIsHandedIn is neither changed nor kept, its spare room neither.
func TestWhatIsHandedIn(t *testing.T) {
	for _, s := range append(slots(), slot{ways: []way{func(*conf.Config) {}}}) {
		for _, way := range s.ways {
			c := made()
			way(&c)
			c = plain(c, 3)
			whole := func() any { return copied(reflect.ValueOf(c), true, 0).Interface() }
			was := whole()
			f := valid.Check(c)
			if now := whole(); !reflect.DeepEqual(now, was) {
				t.Errorf("%s: %+v; want %+v", s.want, now, was)
			}
			spoil(reflect.ValueOf(&c).Elem())
			if got := text(f); got != s.want {
				t.Errorf("%s became %s", s.want, got)
			}
		}
	}
}

// spoil sets all parts of v, in all that it has of others' memory too, to others.
func spoil(v reflect.Value) {
	switch v.Kind() {
	case reflect.Struct:
		for i := range v.NumField() {
			spoil(v.Field(i))
		}
	case reflect.Slice:
		for i := range v.Cap() {
			spoil(v.Slice(0, v.Cap()).Index(i))
		}
	case reflect.String:
		v.SetString("spoilt")
	case reflect.Bool:
		v.SetBool(!v.Bool())
	default:
		v.SetInt(-1)
	}
}

// TestNoListIsAnEmptyOne: nil and not, wherever there may be none.
func TestNoListIsAnEmptyOne(t *testing.T) {
	none := made()
	none.Rules, none.Inhibits, none.Root.By, none.Root.Kids = nil, nil, nil, nil
	lone := made()
	for i := range lone.Rules {
		lone.Rules[i].Match, lone.Rules[i].Bad, lone.Rules[i].Labels = nil, nil, nil
	}
	for _, r := range routes(&lone) {
		r.Match, r.By = nil, nil
	}
	lone.Inhibits = make([]conf.Inhibit, 2)
	nobody := none
	nobody.Receivers = nil
	for _, x := range []struct {
		c    conf.Config
		want string
	}{{none, ""}, {lone, ""}, {nobody, "route 0: name"}, {conf.Config{}, "set 0: arg"}} {
		says(t, "no lists", x.c, x.want)
		says(t, "empty lists", plain(x.c, 0), x.want)
		says(t, "empty lists with room behind them", plain(x.c, 2), x.want)
	}
}

// TestSameAnswers: calls one behind the other answer the same, each a Fault of its own.
func TestSameAnswers(t *testing.T) {
	for range 2 {
		for _, s := range slots() {
			for _, way := range s.ways {
				c := made()
				way(&c)
				one, two := valid.Check(c), valid.Check(c)
				if one == nil || two == nil || one == two || *one != *two {
					t.Fatalf("%s: %v, %v", s.want, one, two)
				}
				*one = valid.Fault{Part: "spoilt", At: -1, Err: -1}
				if text(two) != s.want || text(valid.Check(c)) != s.want || valid.Check(made()) != nil {
					t.Errorf("%s: %v behind other calls", s.want, two)
				}
			}
		}
	}
}

// TestGreatInputs: far more than may be, wherever there are lists and texts, is refused all the same.
func TestGreatInputs(t *testing.T) {
	const n = 1 << 18
	long := strings.Repeat("a", 1<<20)
	circle := []conf.Route{to("ops"), to("dev")}
	circle[0].Kids = circle
	for _, x := range []struct {
		want string
		set  func(c *conf.Config)
	}{
		{"set 7: long", func(c *conf.Config) { c.Rules = make([]conf.Rule, n) }},
		{"set 7: long", func(c *conf.Config) { c.Inhibits = make([]conf.Inhibit, n) }},
		{"set 7: long", func(c *conf.Config) { c.Receivers = make([]conf.Receiver, n) }},
		{"set 7: long", func(c *conf.Config) { c.Root = chain(n) }},
		{"set 7: long", func(c *conf.Config) { c.Root.Kids = make([]conf.Route, n) }},
		{"set 7: long", func(c *conf.Config) { c.Root.Kids = circle }},
		{"rule 0: name", func(c *conf.Config) { c.Rules[0].Name = long }},
		{"rule 0: long", func(c *conf.Config) { c.Rules[0].Match = make([]match.Matcher, n) }},
		{"rule 0: arg", func(c *conf.Config) { c.Rules[0].Bad = make([]match.Matcher, n) }},
		{"rule 1: long", func(c *conf.Config) { c.Rules[1].Bad = make([]match.Matcher, n) }},
		{"rule 1: arg", func(c *conf.Config) { c.Rules[1].Bad = by("a", "=~", long) }},
		{"rule 2: long", func(c *conf.Config) { c.Rules[2].Labels = make(label.Set, n) }},
		{"rule 2: arg", func(c *conf.Config) { c.Rules[2].Labels = of("a", long) }},
		{"route 1: name", func(c *conf.Config) { routes(c)[1].By = make([]string, n) }},
		{"route 1: twice", func(c *conf.Config) { routes(c)[1].By = slices.Repeat([]string{"a"}, n) }},
		{"route 1: name", func(c *conf.Config) { routes(c)[1].By = []string{long} }},
		{"route 1: name", func(c *conf.Config) { routes(c)[1].To = long }},
		{"inhibit 1: long", func(c *conf.Config) { c.Inhibits[1].Source = make([]match.Matcher, n) }},
		{"inhibit 1: twice", func(c *conf.Config) { c.Inhibits[1].Equal = slices.Repeat([]string{"a"}, n) }},
		{"receiver 2: name", func(c *conf.Config) { c.Receivers[2].Name = long }},
	} {
		c := made()
		x.set(&c)
		if got := text(valid.Check(c)); got != x.want {
			t.Errorf("%q; want %q", got, x.want)
		}
	}
}
