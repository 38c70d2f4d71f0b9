package match

import (
	"iter"
	"slices"

	"belfry/api"
	"belfry/braces"
)

// Text tells l as label.Text tells labels, each with its Op for `=`.
func Text(l []Matcher) string { return braces.Text(items(l)) }

// items goes through l as it is written.
func items(l []Matcher) iter.Seq[braces.Item] {
	return func(yield func(braces.Item) bool) {
		for m := range slices.Values(l) {
			if !yield(braces.Item(m)) {
				return
			}
		}
	}
}

// Parse tells the matchers that Text wrote as s; ErrForm: it wrote none so; what Check says of them.
func Parse(s string) ([]Matcher, api.Errno) {
	written, ok := braces.Parse(s, is, isNot, takes, takesNot)
	if !ok {
		return nil, api.ErrForm
	}
	var l []Matcher
	for i := range slices.Values(written) {
		l = append(l, Matcher(i))
	}
	if e := Check(l); e != api.OK {
		return nil, e
	}
	return l, api.OK
}
