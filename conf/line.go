package conf

import (
	"iter"
	"strings"

	"belfry/api"
)

// What the lines have ahead.
const (
	aSet      = "set"
	aRule     = "rule"
	aRoute    = "route"
	anInhibit = "inhibit"
	aReceiver = "receiver"
)

// line is what a part of a configuration is written of: a word ahead, and words behind it.
type line struct {
	ahead  string
	behind []word
}

// place is a route, and how deep it lies below the root.
type place struct {
	*Route
	deep int
}

// lines goes through all that c is written of.
func lines(c *Config) iter.Seq[line] {
	return func(yield func(line) bool) {
		if !yield(setLine(c)) || !each(c.Rules, ruleLine, yield) {
			return
		}
		for p := range places(c.Root) {
			if !yield(routeLine(p.Route, &depth{deep: p.deep})) {
				return
			}
		}
		_ = each(c.Inhibits, inhibitLine, yield) && each(c.Receivers, receiverLine, yield)
	}
}

// each yields a line of each element of l; false: it is enough.
func each[T any](l []T, lineOf func(*T) line, yield func(line) bool) bool {
	for i := range l {
		if !yield(lineOf(&l[i])) {
			return false
		}
	}
	return true
}

// places goes through root and all routes below it, each ahead of its kids.
func places(root Route) iter.Seq[place] {
	return func(yield func(place) bool) {
		// Of each route from the root down to the last one: what is left beside it. Routes may lie deeper than calls can.
		left := [][]Route{{root}}
		for len(left) > 0 {
			deep := len(left) - 1
			if len(left[deep]) == 0 {
				left = left[:deep]
				continue
			}
			next := &left[deep][0]
			left[deep] = left[deep][1:]
			if !yield(place{next, deep}) {
				return
			}
			left = append(left, next.Kids)
		}
	}
}

func setLine(c *Config) line {
	return line{aSet, []word{
		(*period)(&c.Grid), (*period)(&c.Late), (*period)(&c.Retain),
		(*count)(&c.Idle), (*count)(&c.Series), (*count)(&c.Queue), (*count)(&c.Outbox),
	}}
}

func ruleLine(r *Rule) line {
	return line{aRule, []word{
		(*name)(&r.Name), (*count)(&r.Kind), (*count)(&r.Agg), (*count)(&r.Q),
		(*side)(&r.Below), (*ratio)(&r.Raise), (*ratio)(&r.Clear),
		(*period)(&r.Window), (*period)(&r.Short), (*period)(&r.For), (*period)(&r.Keep),
		(*matchers)(&r.Match), (*matchers)(&r.Bad), (*labels)(&r.Labels),
	}}
}

func routeLine(r *Route, d *depth) line {
	return line{aRoute, []word{
		d, (*matchers)(&r.Match), (*names)(&r.By),
		(*period)(&r.Wait), (*period)(&r.Interval), (*period)(&r.Repeat), (*name)(&r.To),
	}}
}

func inhibitLine(i *Inhibit) line {
	return line{anInhibit, []word{
		(*matchers)(&i.Source), (*matchers)(&i.Target), (*names)(&i.Equal),
	}}
}

func receiverLine(r *Receiver) line {
	return line{aReceiver, []word{
		(*name)(&r.Name), (*period)(&r.Base), (*period)(&r.Cap), (*count)(&r.Tries),
	}}
}

// write tells b with the line behind it.
func (l line) write(b []byte) []byte {
	b = append(b, l.ahead...)
	for _, w := range l.behind {
		b = w.write(append(b, ' '))
	}
	return append(b, '\n')
}

// read sets the words of the line to what write wrote as s, but for the A at its end.
// ErrForm: s has more words, or fewer; then what the first of them from the left is refused for.
func (l line) read(s string) api.Errno {
	written, ok := cutWords(s, 1+len(l.behind))
	if !ok {
		return api.ErrForm
	}
	for i, w := range l.behind {
		if e := w.read(written[1+i]); e != api.OK {
			return e
		}
	}
	return api.OK
}

// cutWords tells the n words of s; false: it has more, or fewer.
func cutWords(s string, n int) ([]string, bool) {
	l, more := make([]string, n), true
	for i := range l {
		if !more {
			return nil, false
		}
		l[i], s, more = cutWord(s)
	}
	return l, !more
}

// cutWord tells the word at the front of s, and what is behind the blank that ends it; false: it is the last one.
func cutWord(s string) (word, behind string, more bool) {
	end := braced(s)
	tail, behind, more := strings.Cut(s[end:], " ")
	return s[:end+len(tail)], behind, more
}

// braced tells how many bytes of s a `{` at its front goes to, up to the `}` that is in no text; all, if there is none.
func braced(s string) int {
	if !strings.HasPrefix(s, "{") {
		return 0
	}
	inText := false
	for i := 0; i < len(s); i++ {
		switch {
		case s[i] == '\\' && inText:
			i++
		case s[i] == '"':
			inText = !inText
		case s[i] == '}' && !inText:
			return i + 1
		}
	}
	return len(s)
}
