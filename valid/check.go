package valid

import (
	"cmp"
	"slices"

	"belfry/api"
	"belfry/conf"
	"belfry/label"
	"belfry/match"
	"belfry/span"
	"belfry/wide"
)

// Limits that this layer alone has.
const (
	maxIdle     = 1000000
	maxInhibits = 8
	maxQ        = 100
	maxTries    = 100
)

// ruleLabel is the name of the label that tells of an alert which rule it is of: no rule brings one so called.
const ruleLabel = "rule"

// checkNumbers tells of each number of c whether it may be so.
func checkNumbers(c *conf.Config) []api.Errno {
	return []api.Errno{
		within(c.Grid, 1, api.MaxTime),
		span.Check(c.Late),
		within(c.Retain, c.Grid, api.MaxTime),
		within(c.Idle, 1, maxIdle),
		within(c.Series, 1, api.MaxSeries),
		within(c.Queue, 1, api.MaxQueue),
		within(c.Outbox, 1, api.MaxOutbox),
	}
}

// checkLengths tells whether no list of c has more than may be, and its routes, all together, neither.
func checkLengths(c *conf.Config) api.Errno {
	return when(len(c.Rules) > api.MaxRules ||
		len(c.Inhibits) > maxInhibits ||
		len(c.Receivers) > api.MaxSources ||
		moreRoutes(&c.Root, api.MaxRoutes), api.ErrLong)
}

// moreRoutes tells whether there are more than that many from root on; it looks no further, however many there are.
func moreRoutes(root *conf.Route, most int) bool {
	n := 0
	for range places(root) {
		n++
		if n > most {
			return true
		}
	}
	return false
}

// checkRule tells whether r may be so behind those ahead of it, where samples are kept so long.
func checkRule(r *conf.Rule, ahead []conf.Rule, retain int64) api.Errno {
	twice := slices.ContainsFunc(ahead, func(x conf.Rule) bool { return x.Name == r.Name })
	return cmp.Or(
		checkName(r.Name, twice),
		checkFold(r),
		checkRatios(r),
		checkSpans(r, retain),
		match.Check(r.Match),
		when(r.Kind != api.Burn && len(r.Bad) > 0, api.ErrArg),
		match.Check(r.Bad),
		label.Check(r.Labels),
		when(label.Get(r.Labels, ruleLabel) != "", api.ErrName),
	)
}

// checkName tells whether something may be called so; ErrTwice: something ahead is.
func checkName(name string, twice bool) api.Errno {
	return cmp.Or(when(!label.Name(name), api.ErrName), when(twice, api.ErrTwice))
}

// checkFold tells whether r is of a kind, and folds samples so that it may be.
func checkFold(r *conf.Rule) api.Errno {
	most := 0
	if r.Agg == api.Quantile {
		most = maxQ
	}
	return cmp.Or(
		within(r.Kind, api.Threshold, api.Burn),
		within(r.Agg, api.Count, api.Quantile),
		within(r.Q, 0, most),
	)
}

// checkRatios tells whether r may raise and clear where it does.
func checkRatios(r *conf.Rule) api.Errno {
	beyond := 1
	if r.Below {
		beyond = -1
	}
	order, e := wide.Ratio(wide.Of(r.Clear.Num), r.Clear.Den, r.Raise.Num, r.Raise.Den)
	return cmp.Or(
		e, // a Den below 1
		when(r.Kind == api.Burn && (r.Raise.Num < 0 || r.Clear.Num < 0), api.ErrArg),
		when(order == beyond, api.ErrArg),
	)
}

// checkSpans tells whether r may look so far back, and wait so long, where samples are kept so long.
func checkSpans(r *conf.Rule, retain int64) api.Errno {
	least, most := int64(0), int64(0)
	if r.Kind == api.Burn {
		least, most = 1, r.Window
	}
	return cmp.Or(
		within(r.Window, 1, retain),
		within(r.Short, least, most),
		span.Check(r.For),
		span.Check(r.Keep),
	)
}

// checkRoute tells whether r may be so, so deep below the root, where those may be told.
func checkRoute(r *conf.Route, deep int, receivers []conf.Receiver) api.Errno {
	return cmp.Or(
		match.Check(r.Match),
		checkRising(r.By),
		span.Check(r.Wait),
		within(r.Interval, 1, api.MaxTime),
		within(r.Repeat, 1, api.MaxTime),
		when(!isReceiver(r.To, receivers), api.ErrName),
		when(deep == 0 && len(r.Match) > 0, api.ErrArg),
		checkCount(r.By),
		when(deep > api.MaxDeep, api.ErrLong),
	)
}

// checkInhibit tells whether i may be so.
func checkInhibit(i *conf.Inhibit) api.Errno {
	return cmp.Or(
		match.Check(i.Source),
		match.Check(i.Target),
		checkRising(i.Equal),
		checkCount(i.Equal),
	)
}

// checkRising tells whether labels may be called as names says, name by name; ErrTwice: one is not above the one ahead.
func checkRising(names []string) api.Errno {
	last := "" // every name is above it
	for _, name := range names {
		switch {
		case !label.Name(name):
			return api.ErrName
		case name <= last:
			return api.ErrTwice
		}
		last = name
	}
	return api.OK
}

// checkCount tells whether a set may have labels of all the names.
func checkCount(names []string) api.Errno {
	return when(len(names) > api.MaxLabels, api.ErrLong)
}

// checkReceiver tells whether r may be so behind those ahead of it.
func checkReceiver(r *conf.Receiver, ahead []conf.Receiver) api.Errno {
	return cmp.Or(
		checkName(r.Name, isReceiver(r.Name, ahead)),
		span.Check(r.Base),
		within(r.Cap, r.Base, api.MaxTime),
		within(r.Tries, 1, maxTries),
	)
}

// isReceiver tells whether one of l is called so.
func isReceiver(name string, l []conf.Receiver) bool {
	return slices.ContainsFunc(l, func(x conf.Receiver) bool { return x.Name == name })
}

// within tells whether n is least to most; ErrArg: it is not.
func within[T cmp.Ordered](n, least, most T) api.Errno {
	return when(n < least || n > most, api.ErrArg)
}

// when tells e, if it is so.
func when(so bool, e api.Errno) api.Errno {
	if so {
		return e
	}
	return api.OK
}
