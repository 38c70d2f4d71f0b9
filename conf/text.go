package conf

import (
	"strings"

	"belfry/api"
)

// Text tells c as lines: `set ..`, a `rule ..` each, a `route ..` each, an `inhibit ..` each, a `receiver ..` each.
func Text(c Config) string {
	var text []byte
	for l := range lines(&c) {
		text = l.write(text)
	}
	return string(text)
}

// Parse tells the configuration that Text wrote as s; beside an error it tells the line of it, or how many there are where more are wanted.
// ErrForm: Text wrote none so; what span.Parse, match.Parse and label.Parse say of its words.
func Parse(s string) (Config, int, api.Errno) {
	var r reader
	at := 0
	for l := range strings.Lines(s) {
		if e := r.read(l); e != api.OK {
			return Config{}, at, e
		}
		at++
	}
	if !r.mayFollow(aReceiver) { // where none may, there is no root yet
		return Config{}, at, api.ErrForm
	}
	return r.whole(), 0, api.OK
}

// reader is what is read of a text so far.
type reader struct {
	config Config
	last   string  // what the last line has ahead
	open   []Route // the root, and below it one kid of each, down to the last one: more kids may follow of them, and of no others
}

// read reads a line, its A at the end too.
func (r *reader) read(l string) api.Errno {
	l, ended := strings.CutSuffix(l, "\n")
	ahead, _, _ := cutWord(l)
	if !ended || !r.mayFollow(ahead) {
		return api.ErrForm
	}
	r.last = ahead
	switch ahead {
	case aSet:
		return setLine(&r.config).read(l)
	case aRule:
		return readOne(&r.config.Rules, ruleLine, l)
	case aRoute:
		return r.readRoute(l)
	case anInhibit:
		return readOne(&r.config.Inhibits, inhibitLine, l)
	}
	return readOne(&r.config.Receivers, receiverLine, l)
}

// mayFollow tells whether a line with that word ahead may be the next one.
func (r *reader) mayFollow(ahead string) bool {
	switch r.last {
	case "":
		return ahead == aSet
	case aSet, aRule:
		return ahead == aRule || ahead == aRoute
	case aRoute:
		return ahead == aRoute || ahead == anInhibit || ahead == aReceiver
	case anInhibit:
		return ahead == anInhibit || ahead == aReceiver
	}
	return ahead == aReceiver
}

// readOne reads the line s as one more element of l.
func readOne[T any](l *[]T, lineOf func(*T) line, s string) api.Errno {
	var x T
	e := lineOf(&x).read(s)
	*l = append(*l, x)
	return e
}

// readRoute reads the line s as a route: the root, or a kid of one that is open.
func (r *reader) readRoute(s string) api.Errno {
	var x Route
	d := depth{least: min(1, len(r.open)), most: len(r.open)}
	if e := routeLine(&x, &d).read(s); e != api.OK {
		return e
	}
	r.close(d.deep)
	r.open = append(r.open, x)
	return api.OK
}

// close makes each open route that lies so deep, or deeper, a kid of the one above it.
func (r *reader) close(deep int) {
	for last := len(r.open) - 1; last >= deep; last-- {
		parent := &r.open[last-1]
		parent.Kids = append(parent.Kids, r.open[last])
		r.open = r.open[:last]
	}
}

// whole tells the configuration, once all of it is read.
func (r *reader) whole() Config {
	r.close(1)
	r.config.Root = r.open[0]
	return r.config
}
