package valid_test

import (
	"fmt"
	"math"
	"math/rand/v2"
	"slices"
	"strings"
	"testing"

	"belfry/api"
	"belfry/conf"
	"belfry/label"
	"belfry/match"
)

// way changes a configuration in one of its parts.
type way func(c *conf.Config)

// slot is one thing that may be wrong: in which field, what is said of it, ways to make it so, and ways to be just right there.
type slot struct {
	field, want string
	ways, right []way
}

// ways tells ways that set a field to each of l, and do something else besides.
func ways[T any](field func(c *conf.Config) *T, l []T, also way) []way {
	var all []way
	for _, x := range l {
		all = append(all, func(c *conf.Config) {
			also(c)
			*field(c) = x
		})
	}
	return all
}

func nothing(*conf.Config) {}

// bounded tells the slot of a number that may be least to most; so: what besides its being right asks for.
func bounded[T int | int64](name, want string, field func(c *conf.Config) *T, least, most T, so way) slot {
	wrong := []T{least - 1, most + 1, math.MinInt64, math.MaxInt64, least - 2, most + 1<<31}
	right := []T{least, most}
	for _, n := range []T{least + 1, most - 1, (least + most) / 2} {
		if n >= least && n <= most {
			right = append(right, n)
		}
	}
	return slot{name, want, ways(field, wrong, nothing), ways(field, right, so)}
}

// field tells a field of an element that stands there.
func field[E, T any](list func(c *conf.Config) []E, at int, of func(x *E) *T) func(c *conf.Config) *T {
	return func(c *conf.Config) *T { return of(&list(c)[at]) }
}

type lists = [][]match.Matcher

// none is no matchers, as it may be written.
var none = lists{nil, {}}

// nested tells a pattern in so many brackets.
func nested(n int) string { return strings.Repeat("(", n) + "x" + strings.Repeat(")", n) }

// matchers tells some that may be.
func matchers() lists {
	return lists{by("a", "=", ""), by("a", "!=", "", "a", "=~", "x|y", "a", "!~", nested(9)), by(longName, "=", strings.Repeat("x", 64)), manyBy(8)}
}

// matched tells the slots of matchers, in the order in which they are looked at.
func matched(name, place string, field func(c *conf.Config) *[]match.Matcher) []slot {
	return []slot{
		{name, place + ": long", ways(field, lists{manyBy(9), manyBy(99), make([]match.Matcher, 9), by("a", "=~", nested(10)), by("a", "=", "", "a", "!~", "x|"+nested(11))}, nothing), nil},
		{name, place + ": name", ways(field, lists{by("A", "=", "x"), by("", "=", "x"), by("9", "?", "\x00"), by(longName+"n", "=", "x"), by("a", "=", "x", "a-b", "=", "x"), by("A", "=", "x", "a", "", "x")}, nothing), nil},
		{name, place + ": form", ways(field, lists{by("a", "", "x"), by("a", "==", "x"), by("a", "~", "\x00"), by("a", "=", "x", "b", "=~ ", "x"), by("a", "=~", "("), by("a", "!~", "x)"), by("a", "=", "", "a", "<", "", "A", "=", "")}, nothing), nil},
		{name, place + ": arg", ways(field, lists{by("a", "=", "\x1f"), by("a", "!=", "\x7f"), by("a", "=~", "(\x00"), by("a", "=", strings.Repeat("x", 65)), by("a", "=", "", "b", "!=", "\u00e9")}, nothing), nil},
	}
}

// rising tells the slots of names of labels that rise.
func rising(name, place string, field func(c *conf.Config) *[]string) []slot {
	type lists = [][]string
	return []slot{
		{name, place + ": name", ways(field, lists{{""}, {"A"}, {"9"}, {"a b"}, {"a,b"}, {"a\x00"}, {"\u00e9"}, {longName + "n"}, {"a", ""}, {"a", "B"}, {"a", "B", "a"}, append(names(16), "A"), append([]string{"A"}, names(16)...)}, nothing),
			ways(field, lists{nil, {}, {"_"}, {longName}, {"a", "aa", "ab", "b"}, {"a0", "a9", "a_", "aa"}, {"_", "a"}, {"rule"}, names(15), names(16)}, nothing)},
		{name, place + ": twice", ways(field, lists{{"a", "a"}, {"b", "a"}, {"aa", "a"}, {"a_", "a9"}, {"a", "_"}, {"a", "c", "b"}, {"a", "b", "b"}, {"b", "a", "A"}, {"a", "b", "a"}, append(names(16), "a"), append([]string{"z"}, names(16)...)}, nothing), nil},
	}
}

// tooMany tells the slot of more names than may be.
func tooMany(name, place string, field func(c *conf.Config) *[]string) slot {
	return slot{name, place + ": long", ways(field, [][]string{names(17), names(18), names(99)}, nothing), nil}
}

// setSlots tells those of the part set.
func setSlots() []slot {
	apart := func(c *conf.Config) { c.Rules, c.Retain = nil, most } // so that no window and no grid goes beyond
	many := slot{"lengths", "set 7: long", []way{
		func(c *conf.Config) { c.Rules = append(c.Rules, make([]conf.Rule, 14)...) },
		func(c *conf.Config) { c.Inhibits = append(c.Inhibits, make([]conf.Inhibit, 7)...) },
		func(c *conf.Config) { c.Receivers = append(c.Receivers, make([]conf.Receiver, 14)...) },
		func(c *conf.Config) { c.Root.Kids = append(c.Root.Kids, make([]conf.Route, 12)...) },
		func(c *conf.Config) { routes(c)[4].Kids = append(routes(c)[4].Kids, make([]conf.Route, 12)...) },
		func(c *conf.Config) { routes(c)[2].Kids = append(routes(c)[2].Kids, chain(11)) },
	}, nil}
	return []slot{
		bounded("grid", "set 0: arg", func(c *conf.Config) *int64 { return &c.Grid }, 1, most, apart),
		bounded("late", "set 1: arg", func(c *conf.Config) *int64 { return &c.Late }, 0, most, nothing),
		bounded("retain", "set 2: arg", func(c *conf.Config) *int64 { return &c.Retain }, 10, most, apart),
		bounded("idle", "set 3: arg", func(c *conf.Config) *int { return &c.Idle }, 1, 1000000, nothing),
		bounded("series", "set 4: arg", func(c *conf.Config) *int { return &c.Series }, 1, 256, nothing),
		bounded("queue", "set 5: arg", func(c *conf.Config) *int { return &c.Queue }, 1, 1024, nothing),
		bounded("outbox", "set 6: arg", func(c *conf.Config) *int { return &c.Outbox }, 1, 1024, nothing),
		many,
	}
}

// Which rule of made is of which kind.
const (
	high   = 0
	burn   = 1
	absent = 2
)

// ruleField tells a field of that rule.
func ruleField[T any](at int, of func(r *conf.Rule) *T) func(c *conf.Config) *T {
	return field(func(c *conf.Config) []conf.Rule { return c.Rules }, at, of)
}

// ratios tells a way that sets where that rule raises and clears, and whether below.
func ratios(at int, raise, clear conf.Ratio, below bool) way {
	return func(c *conf.Config) { c.Rules[at].Raise, c.Rules[at].Clear, c.Rules[at].Below = raise, clear, below }
}

// ratioSlots tells those of that rule's ratios.
func ratioSlots(at int, arg string) []slot {
	name := fmt.Sprintf("ratios of rule %d", at)
	dens := slot{name, arg, []way{
		ratios(at, over(3, 0), over(0, 1), false), ratios(at, over(3, -1), over(0, 1), false), ratios(at, over(3, math.MinInt64), over(0, 1), true),
		ratios(at, over(3, 1), over(1, 0), false), ratios(at, over(0, 1), over(1, -1), true), ratios(at, over(3, 1), over(3, math.MinInt64), false),
		ratios(at, over(0, 0), over(0, 0), false), ratios(at, over(3, -2), over(3, -2), true),
	}, []way{ratios(at, over(3, 1), over(3, 1), false), ratios(at, over(0, math.MaxInt64), over(1, math.MaxInt64), true)}}
	low := []way{
		ratios(at, over(-1, 9), over(1, 9), true), ratios(at, over(-1, 9), over(0, 1), true), ratios(at, over(math.MinInt64, 1), over(1, 9), true),
		ratios(at, over(1, 9), over(-1, 9), false), ratios(at, over(0, 1), over(-1, math.MaxInt64), false), ratios(at, over(0, 1), over(math.MinInt64, 1), false),
		ratios(at, over(-1, 9), over(-1, 9), false), ratios(at, over(-1, 9), over(-1, 9), true),
	}
	nums := slot{name, arg, nil, low}
	if at == burn {
		nums = slot{name, arg, low, []way{ratios(at, over(0, 1), over(0, 9), false), ratios(at, over(0, 1), over(0, 9), true)}}
	}
	beyond := slot{name, arg, []way{
		ratios(at, over(1, 2), over(1, 1), false), ratios(at, over(1, 2), over(math.MaxInt64/2+1, math.MaxInt64), false), ratios(at, over(0, 1), over(1, math.MaxInt64), false),
		ratios(at, over(1, 1), over(1, 2), true), ratios(at, over(1, 2), over(math.MaxInt64/2, math.MaxInt64), true), ratios(at, over(1, math.MaxInt64), over(0, 1), true),
	}, []way{
		ratios(at, over(1, 2), over(1, 2), false), ratios(at, over(1, 2), over(2, 4), true), ratios(at, over(1, 2), over(math.MaxInt64/2, math.MaxInt64), false), ratios(at, over(1, 2), over(math.MaxInt64/2+1, math.MaxInt64), true),
	}}
	return []slot{dens, nums, beyond}
}

// foldSlots tells those of that rule's kind and fold.
func foldSlots(at int, arg string) []slot {
	of := func(what string) string { return fmt.Sprintf("%s of rule %d", what, at) }
	kind := ruleField(at, func(r *conf.Rule) *int { return &r.Kind })
	agg := ruleField(at, func(r *conf.Rule) *int { return &r.Agg })
	q := ruleField(at, func(r *conf.Rule) *int { return &r.Q })
	mostQ := 0
	if at == high {
		mostQ = 100
	}
	another := func(c *conf.Config) { // as one of any kind may be
		r := &c.Rules[at]
		r.Short, r.Bad, r.Raise, r.Clear = 0, nil, over(1, 1), over(1, 1)
	}
	as := bounded(of("kind"), arg, kind, 1, 3, another)
	as.right = append(ways(kind, []int{1, 2}, another), func(c *conf.Config) {
		another(c)
		c.Rules[at].Kind, c.Rules[at].Short, c.Rules[at].Bad = 3, 1, manyBy(8)
	})
	return []slot{
		as,
		bounded(of("agg"), arg, agg, 1, 7, func(c *conf.Config) { *q(c) = 0 }),
		bounded(of("q"), arg, q, 0, mostQ, nothing),
		{of("agg"), arg, nil, []way{func(c *conf.Config) { *agg(c), *q(c) = 7, 100 }}},
	}
}

// spanSlots tells those of that rule's window and the like.
func spanSlots(at int, arg string) []slot {
	of := func(what string) string { return fmt.Sprintf("%s of rule %d", what, at) }
	window := ruleField(at, func(r *conf.Rule) *int64 { return &r.Window })
	short := ruleField(at, func(r *conf.Rule) *int64 { return &r.Short })
	least, longest := int64(0), int64(0)
	if at == burn {
		least, longest = 1, 200
	}
	return []slot{
		bounded(of("window"), arg, window, 1, 1000, func(c *conf.Config) { *short(c) = least }),
		bounded(of("short"), arg, short, least, longest, nothing),
		bounded(of("for"), arg, ruleField(at, func(r *conf.Rule) *int64 { return &r.For }), 0, most, nothing),
		bounded(of("keep"), arg, ruleField(at, func(r *conf.Rule) *int64 { return &r.Keep }), 0, most, nothing),
	}
}

// matchSlots tells those of that rule's Match.
func matchSlots(at int, place string) []slot {
	who := ruleField(at, func(r *conf.Rule) *[]match.Matcher { return &r.Match })
	return append(matched("match of "+place, place, who), slot{"match of " + place, "", nil, ways(who, append(matchers(), none...), nothing)})
}

// badSlots tells those of that rule's Bad.
func badSlots(at int, place string) []slot {
	name := fmt.Sprintf("bad of rule %d", at)
	bad := ruleField(at, func(r *conf.Rule) *[]match.Matcher { return &r.Bad })
	if at == burn {
		return append(matched(name, place, bad), slot{name, "", nil, ways(bad, append(matchers(), none...), nothing)})
	}
	wrong := append(matchers(), by("A", "=", "x"), by("a", "=~", "("), manyBy(9))
	return []slot{{name, place + ": arg", ways(bad, wrong, nothing), ways(bad, none, nothing)}}
}

// labelSlots tells those of that rule's labels.
func labelSlots(at int, place string) []slot {
	name := fmt.Sprintf("labels of rule %d", at)
	labels := ruleField(at, func(r *conf.Rule) *label.Set { return &r.Labels })
	wrong := func(word string, l ...label.Set) slot {
		return slot{name, place + ": " + word, ways(labels, l, nothing), nil}
	}
	slots := []slot{
		wrong("long", many(17), many(99), make(label.Set, 17), append(many(16), of("rule", "x")...)),
		wrong("name", of("", "x"), of("A", ""), of("9", "x"), of(longName+"n", "x"), of("a", "x", "b-", "y"), of("A", "x", "a", "x", "a", "x")),
		wrong("twice", of("a", "x", "a", "x"), of("b", "x", "a", ""), of("a", "x", "c", "x", "b", "x"), of("rule", "x", "a", "x"), of("rule", "x", "rule", "x")),
		wrong("arg", of("a", ""), of("a", "\x1f"), of("a", "\x7f"), of("a", strings.Repeat("x", 65)), of("a", "", "a", "x"), of("rule", ""), of("rule", "x", "z", "")),
		wrong("name", of("rule", "x"), of("a", "x", "rule", "y"), of("rule", "x", "z", "y"), of("rule", made().Rules[at].Name), append(many(15), of("rule", "x")...)),
	}
	slots[3].right = ways(labels, []label.Set{nil, {}, of("_", " "), of(longName, strings.Repeat("~", 64)), of("rul", "x", "rule_", "y", "rules", "z"), of("a", "rule"), many(15), many(16)}, nothing)
	return slots
}

// named tells the slots of what something is called, where those are called so ahead.
func named(name, place string, field func(c *conf.Config) *string, ahead []string) []slot {
	return []slot{
		{name, place + ": name", ways(field, []string{"", "A", "9", "a b", "a-b", "a\x00", "\xff", "-", longName + "n"}, nothing), ways(field, []string{"_", "z", "a9", "set", "rule", longName}, nothing)},
		{name, place + ": twice", ways(field, ahead, nothing), nil},
	}
}

// ruleSlots tells those of that rule.
func ruleSlots(at int) []slot {
	place := fmt.Sprintf("rule %d", at)
	arg := place + ": arg"
	return slices.Concat(
		named(place, place, ruleField(at, func(r *conf.Rule) *string { return &r.Name }), []string{"high", "burn"}[:at]),
		foldSlots(at, arg), ratioSlots(at, arg), spanSlots(at, arg),
		matchSlots(at, place), badSlots(at, place), labelSlots(at, place),
	)
}

// routeSlots tells those of that route.
func routeSlots(at int) []slot {
	place := fmt.Sprintf("route %d", at)
	number := func(of func(r *conf.Route) *int64) func(c *conf.Config) *int64 {
		return func(c *conf.Config) *int64 { return of(routes(c)[at]) }
	}
	who := func(c *conf.Config) *[]match.Matcher { return &routes(c)[at].Match }
	names := func(c *conf.Config) *[]string { return &routes(c)[at].By }
	told := func(c *conf.Config) *string { return &routes(c)[at].To }
	some := slot{"match of " + place, place + ": arg", nil, ways(who, append(matchers(), none...), nothing)}
	if at == 0 {
		some.ways, some.right = ways(who, matchers(), nothing), ways(who, none, nothing)
	}
	return slices.Concat(
		matched("match of "+place, place, who),
		rising("by of "+place, place, names),
		[]slot{
			bounded("wait of "+place, place+": arg", number(func(r *conf.Route) *int64 { return &r.Wait }), 0, most, nothing),
			bounded("interval of "+place, place+": arg", number(func(r *conf.Route) *int64 { return &r.Interval }), 1, most, nothing),
			bounded("repeat of "+place, place+": arg", number(func(r *conf.Route) *int64 { return &r.Repeat }), 1, most, nothing),
			{"to of " + place, place + ": name", ways(told, []string{"", "Ops", "nobody", "op", "opss", "high", "-", "spares"}, nothing), ways(told, []string{"ops", "dev", "spare"}, nothing)},
			some,
			tooMany("by of "+place, place, names),
		},
	)
}

// inhibitSlots tells those of that inhibit.
func inhibitSlots(at int) []slot {
	place := fmt.Sprintf("inhibit %d", at)
	source := func(c *conf.Config) *[]match.Matcher { return &c.Inhibits[at].Source }
	target := func(c *conf.Config) *[]match.Matcher { return &c.Inhibits[at].Target }
	equal := func(c *conf.Config) *[]string { return &c.Inhibits[at].Equal }
	return slices.Concat(
		matched("source of "+place, place, source),
		matched("target of "+place, place, target),
		rising("equal of "+place, place, equal),
		[]slot{
			tooMany("equal of "+place, place, equal),
			{"source of " + place, "", nil, ways(source, append(matchers(), none...), nothing)},
			{"target of " + place, "", nil, ways(target, append(matchers(), none...), nothing)},
		},
	)
}

// receiverSlots tells those of that receiver.
func receiverSlots(at int) []slot {
	place := fmt.Sprintf("receiver %d", at)
	arg := place + ": arg"
	base := func(c *conf.Config) *int64 { return &c.Receivers[at].Base }
	limit := func(c *conf.Config) *int64 { return &c.Receivers[at].Cap }
	tries := func(c *conf.Config) *int { return &c.Receivers[at].Tries }
	var called []slot
	if at == 2 { // routes tell the others
		called = named(place, place, func(c *conf.Config) *string { return &c.Receivers[at].Name }, []string{"ops", "dev"})
	}
	return append(called,
		bounded("base of "+place, arg, base, 0, most, func(c *conf.Config) { *limit(c) = most }),
		bounded("cap of "+place, arg, limit, *base(new(made())), most, nothing),
		bounded("tries of "+place, arg, tries, 1, 100, nothing),
	)
}

// slots tells all that may be wrong with made, in the order in which it is looked at.
func slots() []slot {
	all := setSlots()
	for at := range 3 {
		all = append(all, ruleSlots(at)...)
	}
	for at := range 5 {
		all = append(all, routeSlots(at)...)
	}
	below := func(n int) way {
		return func(c *conf.Config) { routes(c)[4].Kids = append(routes(c)[4].Kids, chain(n-1)) }
	}
	all = append(all, slot{"deep", "route 12: long", []way{below(8), below(9), below(11)}, []way{below(7), below(1)}})
	for at := range 2 {
		all = append(all, inhibitSlots(at)...)
	}
	for at := range 3 {
		all = append(all, receiverSlots(at)...)
	}
	return all
}

// TestEachAlone: each thing that may be wrong, each way, and the nearest ways that are right.
func TestEachAlone(t *testing.T) {
	wrong, right := 0, 0
	for _, s := range slots() {
		for i, way := range s.ways {
			c := made()
			way(&c)
			says(t, fmt.Sprintf("%s, %d", s.field, i), c, s.want)
			wrong++
		}
		for i, way := range s.right {
			c := made()
			way(&c)
			says(t, fmt.Sprintf("%s, right %d", s.field, i), c, "")
			right++
		}
	}
	if wrong < 900 || right < 300 {
		t.Errorf("%d wrong, %d right only", wrong, right)
	}
}

// TestTwoByTwo: of two things that are wrong the one ahead is told, whichever was made so first.
func TestTwoByTwo(t *testing.T) {
	all := slices.DeleteFunc(slots(), func(s slot) bool { return len(s.ways) == 0 })
	for i, first := range all {
		for k, second := range all[i+1:] {
			if first.field == second.field {
				continue
			}
			one, two := first.ways[(i+k)%len(first.ways)], second.ways[(i*7+k)%len(second.ways)]
			for _, order := range [][]way{{one, two}, {two, one}} {
				c := made()
				for _, way := range order {
					way(&c)
				}
				says(t, first.field+" and "+second.field, c, first.want)
			}
		}
	}
}

// TestSeveral: of several things that are wrong the one ahead is told.
func TestSeveral(t *testing.T) {
	all := slices.DeleteFunc(slots(), func(s slot) bool { return len(s.ways) == 0 })
	random := rand.New(rand.NewPCG(9, 1))
	for range 20000 {
		c, fields := made(), map[string]bool{}
		picked := random.Perm(len(all))[:2+random.IntN(6)]
		first := slices.Min(picked)
		for _, at := range picked {
			s := all[at]
			if at != first && s.field == all[first].field || fields[s.field] {
				continue
			}
			fields[s.field] = true
			s.ways[random.IntN(len(s.ways))](&c)
		}
		says(t, all[first].field, c, all[first].want)
	}
}

// TestWhichElement: of parts that are wrong alike the first one is told.
func TestWhichElement(t *testing.T) {
	for at := range 16 {
		rules, told, lists := made(), made(), made()
		lists.Inhibits = make([]conf.Inhibit, 8)
		for i := range 13 {
			rules.Rules = append(rules.Rules, made().Rules[i%3])
			rules.Rules[3+i].Name = names(13)[i]
			told.Receivers = append(told.Receivers, conf.Receiver{Name: names(13)[i], Tries: 1})
		}
		for i := at; i < 16; i++ {
			rules.Rules[i].For, told.Receivers[i].Tries = -1, 0
			if i < 8 {
				lists.Inhibits[i].Equal = []string{"a", "a"}
			}
		}
		says(t, "rules", rules, fmt.Sprintf("rule %d: arg", at))
		says(t, "receivers", told, fmt.Sprintf("receiver %d: arg", at))
		if at < 8 {
			says(t, "inhibits", lists, fmt.Sprintf("inhibit %d: twice", at))
		}
	}
}

// TestTwiceIsToldOfTheLaterOne, however far ahead the other is, and ahead of what else is wrong with it.
func TestTwiceIsToldOfTheLaterOne(t *testing.T) {
	for later := 1; later < 16; later++ {
		for ahead := range later {
			c := made()
			c.Rules = nil
			for i, name := range names(16) {
				c.Rules = append(c.Rules, made().Rules[i%3])
				c.Rules[i].Name = name
				if i > 1 {
					c.Receivers = append(c.Receivers[:i:i], conf.Receiver{Name: name, Tries: 1})
				}
			}
			rules := c
			rules.Rules = slices.Clone(c.Rules)
			rules.Rules[later].Name, rules.Rules[later].Kind = rules.Rules[ahead].Name, 0
			says(t, "rules", rules, fmt.Sprintf("rule %d: twice", later))
			if later > 1 {
				c.Receivers[later].Name, c.Receivers[later].Tries = c.Receivers[ahead].Name, 0
				says(t, "receivers", c, fmt.Sprintf("receiver %d: twice", later))
			}
		}
	}
}

// TestNamesOfOtherParts: a name is twice only among those of its own part, and none told of another part is a receiver.
func TestNamesOfOtherParts(t *testing.T) {
	c := made()
	c.Rules[high].Name, c.Receivers[2].Name = "ops", "burn"
	says(t, "names that others have", c, "")
	routes(&c)[3].To = "burn"
	says(t, "a route to a receiver of a rule's name", c, "")
	routes(&c)[3].To = "absent"
	says(t, "a route to a rule", c, "route 3: name")
	c = made()
	c.Receivers[1].Name, routes(&c)[1].To, routes(&c)[3].To = "", "", ""
	says(t, "a receiver that may not be called so is one", c, "receiver 1: name")
	c.Receivers[1].Name, routes(&c)[1].To, routes(&c)[3].To = "ops", "ops", "ops"
	says(t, "a receiver that is there twice", c, "receiver 1: twice")
	c.Receivers = nil
	says(t, "no receiver", c, "route 0: name")
}

// TestEachKindAndFold: all numbers about those that there are, two by two.
func TestEachKindAndFold(t *testing.T) {
	for kind := -1; kind < 6; kind++ {
		for agg := -1; agg < 10; agg++ {
			for _, q := range []int{math.MinInt64, -1, 0, 1, 50, 99, 100, 101, math.MaxInt64} {
				c, want := made(), ""
				r := &c.Rules[absent]
				r.Kind, r.Agg, r.Q, r.Raise, r.Clear = kind, agg, q, over(1, 1), over(1, 1)
				if kind == api.Burn {
					r.Short = 1
				}
				if kind < 1 || kind > 3 || agg < 1 || agg > 7 || q != 0 && (agg != api.Quantile || q < 0 || q > 100) {
					want = "rule 2: arg"
				}
				says(t, "kind, fold", c, want)
			}
		}
	}
}
