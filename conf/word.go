package conf

import (
	"cmp"
	"strconv"
	"strings"

	"belfry/api"
	"belfry/label"
	"belfry/match"
	"belfry/span"
	"belfry/words"
)

// none is how a list of nothing is written.
const none = "-"

// Which side of a ratio a rule raises on.
const (
	above = "above"
	below = "below"
)

// word is one of those that a line is written of, behind the one ahead.
type word interface {
	// write tells b with the word behind it.
	write(b []byte) []byte
	// read sets the word to what write wrote as s; ErrForm: it wrote nothing so.
	read(s string) api.Errno
}

// name is a word that is any bytes.
type name string

func (n *name) write(b []byte) []byte { return append(b, *n...) }

func (n *name) read(s string) api.Errno {
	*n = name(strings.Clone(s)) // as it would keep the whole text with it
	return api.OK
}

// names is a word that is names with a `,` between.
type names []string

func (n *names) write(b []byte) []byte {
	if len(*n) == 0 {
		return append(b, none...)
	}
	return append(b, strings.Join(*n, ",")...)
}

func (n *names) read(s string) api.Errno {
	if s == none {
		return api.OK
	}
	for x := range strings.SplitSeq(s, ",") {
		if x == "" {
			return api.ErrForm
		}
		*n = append(*n, strings.Clone(x))
	}
	return api.OK
}

// period is a word that is a span.
type period int64

func (p *period) write(b []byte) []byte { return append(b, span.Text(int64(*p))...) }

func (p *period) read(s string) api.Errno {
	d, e := span.Parse(s)
	*p = period(d)
	return e
}

// count is a word that is a number.
type count int

func (c *count) write(b []byte) []byte { return strconv.AppendInt(b, int64(*c), 10) }

func (c *count) read(s string) api.Errno {
	n, e := number(s)
	*c = count(n)
	return e
}

// number tells the number that s writes; ErrForm: it writes none.
func number(s string) (int64, api.Errno) {
	n, behind, ok := words.TakeNumber(s)
	if !ok || behind != "" {
		return 0, api.ErrForm
	}
	return n, api.OK
}

// depth is a word that is how deep a route lies, and from where to where it may.
type depth struct{ deep, least, most int }

func (d *depth) write(b []byte) []byte { return strconv.AppendInt(b, int64(d.deep), 10) }

func (d *depth) read(s string) api.Errno {
	n, e := number(s)
	if e != api.OK || n < int64(d.least) || n > int64(d.most) {
		return api.ErrForm
	}
	d.deep = int(n)
	return api.OK
}

// side is a word that is true below, and false above.
type side bool

func (d *side) write(b []byte) []byte {
	if *d {
		return append(b, below...)
	}
	return append(b, above...)
}

func (d *side) read(s string) api.Errno {
	if s != above && s != below {
		return api.ErrForm
	}
	*d = s == below
	return api.OK
}

// ratio is a word that is two numbers with a `/` between.
type ratio Ratio

func (r *ratio) write(b []byte) []byte {
	b = strconv.AppendInt(b, r.Num, 10)
	return strconv.AppendInt(append(b, '/'), r.Den, 10)
}

func (r *ratio) read(s string) api.Errno {
	num, den, _ := strings.Cut(s, "/") // without it there is no second number
	var first, second api.Errno
	r.Num, first = number(num)
	r.Den, second = number(den)
	return cmp.Or(first, second)
}

// matchers is a word that is what match.Text tells of some.
type matchers []match.Matcher

func (m *matchers) write(b []byte) []byte { return writeList(b, []match.Matcher(*m), match.Text) }

func (m *matchers) read(s string) (e api.Errno) {
	*m, e = readList(s, match.Parse)
	return e
}

// labels is a word that is what label.Text tells of some.
type labels label.Set

func (l *labels) write(b []byte) []byte { return writeList(b, label.Set(*l), label.Text) }

func (l *labels) read(s string) api.Errno {
	set, e := readList(s, label.Parse)
	*l = labels(set)
	return e
}

// writeList tells b with the text of l behind it, if there is something in l.
func writeList[L ~[]T, T any](b []byte, l L, text func(L) string) []byte {
	if len(l) == 0 {
		return append(b, none...)
	}
	return append(b, text(l)...)
}

// readList tells the list that writeList wrote as s; what parse says of it.
func readList[L ~[]T, T any](s string, parse func(string) (L, api.Errno)) (L, api.Errno) {
	if s == none {
		return nil, api.OK
	}
	l, e := parse(s)
	if e == api.OK && len(l) == 0 {
		e = api.ErrForm // it has another word
	}
	return l, e
}
