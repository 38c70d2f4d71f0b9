package valid_test

import (
	"fmt"
	"math"
	"math/big"
	"math/rand/v2"
	"reflect"
	"regexp"
	"slices"
	"testing"

	"belfry/api"
	"belfry/conf"
	"belfry/label"
	"belfry/match"
)

// labelName is a label's name, as chapter 3 has it.
var labelName = regexp.MustCompile(`^[a-z_][a-z0-9_]{0,15}\z`)

// faults is what is told to be wrong, as texts, the first ahead.
type faults struct {
	all  []string
	part string
	at   int
}

// tell tells e of where it is, if it is so.
func (f *faults) tell(so bool, e api.Errno) {
	if so && e != api.OK {
		f.all = append(f.all, fmt.Sprintf("%s %d: %s", f.part, f.at, e.Error()))
	}
}

// rising tells what is wrong with names.
func (f *faults) rising(l []string) {
	for i, name := range l {
		f.tell(!labelName.MatchString(name), api.ErrName)
		f.tell(i > 0 && name <= l[i-1], api.ErrTwice)
	}
}

// called tells what is wrong with a name behind others.
func (f *faults) called(name string, ahead map[string]bool) {
	f.tell(!labelName.MatchString(name), api.ErrName)
	f.tell(ahead[name], api.ErrTwice)
	ahead[name] = true
}

// outside tells whether n is not least to most.
func outside(n, least, most int64) bool { return n < least || most < n }

// wrongs tells all that is wrong with c, one thing behind the other, as the chapter does.
func wrongs(c conf.Config) []string {
	f := &faults{part: "set"}
	all := routes(&c)
	for at, wrong := range []bool{
		outside(c.Grid, 1, most), outside(c.Late, 0, most), outside(c.Retain, c.Grid, most), outside(int64(c.Idle), 1, 1000000),
		outside(int64(c.Series), 1, 256), outside(int64(c.Queue), 1, 1024), outside(int64(c.Outbox), 1, 1024),
	} {
		f.at = at
		f.tell(wrong, api.ErrArg)
	}
	f.at = 7
	f.tell(len(c.Rules) > 16 || len(c.Inhibits) > 8 || len(c.Receivers) > 16 || len(all) > 16, api.ErrLong)
	f.part = "rule"
	ahead := map[string]bool{}
	for at, r := range c.Rules {
		f.at = at
		f.called(r.Name, ahead)
		f.rule(r, c.Retain)
	}
	f.part = "route"
	for at, r := range all {
		f.at = at
		f.route(r, at == 0, c)
	}
	f.part = "inhibit"
	for at, i := range c.Inhibits {
		f.at = at
		f.tell(true, match.Check(i.Source))
		f.tell(true, match.Check(i.Target))
		f.rising(i.Equal)
		f.tell(len(i.Equal) > 16, api.ErrLong)
	}
	f.part = "receiver"
	ahead = map[string]bool{}
	for at, r := range c.Receivers {
		f.at = at
		f.called(r.Name, ahead)
		f.tell(outside(r.Base, 0, most) || outside(r.Cap, r.Base, most) || outside(int64(r.Tries), 1, 100), api.ErrArg)
	}
	return f.all
}

// rule tells what is wrong with r but its name.
func (f *faults) rule(r conf.Rule, retain int64) {
	burns := r.Kind == 3
	f.tell(outside(int64(r.Kind), 1, 3) || outside(int64(r.Agg), 1, 7), api.ErrArg)
	f.tell(outside(int64(r.Q), 0, 100) || r.Q != 0 && r.Agg != 7, api.ErrArg)
	f.tell(r.Raise.Den < 1 || r.Clear.Den < 1, api.ErrArg)
	f.tell(burns && (r.Raise.Num < 0 || r.Clear.Num < 0), api.ErrArg)
	f.tell(outside(r.Window, 1, retain), api.ErrArg)
	f.tell(burns && outside(r.Short, 1, r.Window) || !burns && r.Short != 0, api.ErrArg)
	f.tell(outside(r.For, 0, most) || outside(r.Keep, 0, most), api.ErrArg)
	if r.Raise.Den != 0 && r.Clear.Den != 0 {
		order := big.NewRat(r.Clear.Num, r.Clear.Den).Cmp(big.NewRat(r.Raise.Num, r.Raise.Den))
		f.tell(!r.Below && order > 0 || r.Below && order < 0, api.ErrArg)
	}
	f.tell(true, match.Check(r.Match))
	f.tell(!burns && len(r.Bad) > 0, api.ErrArg)
	f.tell(burns, match.Check(r.Bad))
	f.tell(true, label.Check(r.Labels))
	f.tell(slices.ContainsFunc(r.Labels, func(l label.Label) bool { return l.Name == "rule" }), api.ErrName)
}

// route tells what is wrong with r.
func (f *faults) route(r *conf.Route, root bool, c conf.Config) {
	f.tell(true, match.Check(r.Match))
	f.rising(r.By)
	f.tell(outside(r.Wait, 0, most) || outside(r.Interval, 1, most) || outside(r.Repeat, 1, most), api.ErrArg)
	f.tell(!slices.ContainsFunc(c.Receivers, func(x conf.Receiver) bool { return x.Name == r.To }), api.ErrName)
	f.tell(root && len(r.Match) > 0, api.ErrArg)
	f.tell(len(r.By) > 16, api.ErrLong)
	f.tell(lies(&c.Root, r) > 8, api.ErrLong)
}

// lies tells how deep r lies below from, -1 for not at all.
func lies(from, r *conf.Route) int {
	if from == r {
		return 0
	}
	for i := range from.Kids {
		if deep := lies(&from.Kids[i], r); deep >= 0 {
			return deep + 1
		}
	}
	return -1
}

// TestPlain holds configurations that are some changes off one with nothing wrong against the plain list of all that is wrong.
func TestPlain(t *testing.T) {
	random := rand.New(rand.NewPCG(9, 2))
	words := map[string]int{}
	for range 16000 {
		c := plain(made(), 1)
		for range 1 + random.IntN(4) {
			all := parts(reflect.ValueOf(&c).Elem())
			change(all[random.IntN(len(all))], random)
		}
		want := ""
		if all := wrongs(c); len(all) > 0 {
			want = all[0]
		}
		words[want]++
		says(t, "a few changes", c, want)
	}
	if len(words) < 60 || words[""] < 1000 {
		t.Errorf("only %d answers, %d of them none", len(words), words[""])
	}
}

// parts tells all of v that may be changed: what is no list, and each list ahead of its elements.
func parts(v reflect.Value) []reflect.Value {
	var l []reflect.Value
	switch v.Kind() {
	case reflect.Struct:
		for i := range v.NumField() {
			l = append(l, parts(v.Field(i))...)
		}
	case reflect.Slice:
		l = append(l, v)
		for i := range v.Len() {
			l = append(l, parts(v.Index(i))...)
		}
	default:
		l = append(l, v)
	}
	return l
}

// change makes v another one of its kind.
func change(v reflect.Value, random *rand.Rand) {
	switch v.Kind() {
	case reflect.String:
		l := []string{"", "a", "job", "rule", "zone", "ops", "dev", "spare", "high", "burn", "absent", "A", "=", "=~", "!=", "(", "x|y", "\x00", longName, longName + "n"}
		v.SetString(l[random.IntN(len(l))])
	case reflect.Bool:
		v.SetBool(!v.Bool())
	case reflect.Slice:
		changeList(v, random)
	default:
		l := []int64{math.MinInt64, -1, 0, 1, 2, 3, 4, 7, 8, 10, 20, 100, 101, 200, 256, 257, 1000, 1001, 1024, 1025, 1000000, 1000001, most, most + 1, math.MaxInt64, v.Int() - 1, v.Int() + 1}
		v.SetInt(l[random.IntN(len(l))])
	}
}

// changeList makes the list v another one: shorter, turned about, or longer by one of its own or by some that are nought.
func changeList(v reflect.Value, random *rand.Rand) {
	n := v.Len()
	switch random.IntN(6) {
	case 0:
		v.SetZero()
	case 1:
		v.Set(v.Slice(min(1, n), n))
	case 2:
		if n > 0 {
			v.Set(reflect.Append(v.Slice(1, n), v.Index(0)))
		}
	case 3:
		v.Set(reflect.AppendSlice(v, reflect.MakeSlice(v.Type(), 1+random.IntN(17), 17)))
	default:
		for range random.IntN(3) {
			if n > 0 {
				v.Set(reflect.Append(v, copied(v.Index(random.IntN(n)), false, 0)))
			}
		}
	}
}

// TestBeyond holds where a rule may clear against exact numbers, at both ends of 64 bits too.
func TestBeyond(t *testing.T) {
	var all []conf.Ratio
	for _, num := range []int64{math.MinInt64, math.MinInt64 + 1, -3, -1, 0, 1, 2, math.MaxInt64 - 1, math.MaxInt64} {
		for _, den := range []int64{1, 2, 3, math.MaxInt64 - 1, math.MaxInt64} {
			all = append(all, over(num, den))
		}
	}
	for _, raise := range all {
		for _, clear := range all {
			order := big.NewRat(clear.Num, clear.Den).Cmp(big.NewRat(raise.Num, raise.Den))
			for _, below := range []bool{false, true} {
				for at := range 3 {
					c, want := made(), ""
					ratios(at, raise, clear, below)(&c)
					if !below && order > 0 || below && order < 0 || at == burn && (raise.Num < 0 || clear.Num < 0) {
						want = fmt.Sprintf("rule %d: arg", at)
					}
					says(t, fmt.Sprint(raise, clear, below), c, want)
				}
			}
		}
	}
}
