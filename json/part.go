package json

import (
	"iter"
	"slices"
	"strconv"
	"strings"

	"belfry/words"
)

// part is one of those that a note is written of, one behind the other.
type part interface {
	// write tells b with the part behind it.
	write(b []byte) []byte
	// read sets the part to what write wrote at the front of r, and takes that; false: it wrote nothing there.
	read(r *reader) bool
}

// reader is what is not read yet of a text.
type reader struct{ rest string }

// write tells b with all parts behind it.
func write(b []byte, parts iter.Seq[part]) []byte {
	for p := range parts {
		b = p.write(b)
	}
	return b
}

// read reads all parts; false: they are not written at the front of r.
func (r *reader) read(parts iter.Seq[part]) bool {
	for p := range parts {
		if !p.read(r) {
			return false
		}
	}
	return true
}

// take takes s from the front of r; false: it does not stand there.
func (r *reader) take(s string) (ok bool) {
	r.rest, ok = strings.CutPrefix(r.rest, s)
	return ok
}

// mark is a part that is the same in each note.
type mark string

func (m mark) write(b []byte) []byte { return append(b, m...) }
func (m mark) read(r *reader) bool   { return r.take(string(m)) }

// text is a part that is any bytes.
type text string

func (t *text) write(b []byte) []byte { return append(b, words.Quote(string(*t))...) }

func (t *text) read(r *reader) bool {
	s, behind, ok := words.TakeQuoted(r.rest)
	*t, r.rest = text(s), behind
	return ok
}

// number is a part that is a number, in decimal.
type number int64

func (n *number) write(b []byte) []byte { return strconv.AppendInt(b, int64(*n), 10) }

func (n *number) read(r *reader) bool {
	i, behind, ok := words.TakeNumber(r.rest)
	*n, r.rest = number(i), behind
	return ok
}

// list is a part that is elements, each of parts of its own: between brackets, with a `,` between two.
type list[T any] struct {
	elements *[]T
	brackets string
	parts    func(*T) iter.Seq[part]
}

func (l list[T]) write(b []byte) []byte {
	b = append(b, l.brackets[0])
	for place, e := range slices.All(*l.elements) {
		if place > 0 {
			b = append(b, ',')
		}
		b = write(b, l.parts(&e))
	}
	return append(b, l.brackets[1])
}

func (l list[T]) read(r *reader) bool {
	for e, ok := range l.written(r) {
		if !ok {
			return false
		}
		*l.elements = append(*l.elements, e)
	}
	return true
}

// written goes through the elements at the front of r; the last one comes with false where r goes on as no list does.
func (l list[T]) written(r *reader) iter.Seq2[T, bool] {
	return func(yield func(T, bool) bool) {
		if r.take(l.brackets) {
			return
		}
		for ahead := l.brackets[:1]; ; ahead = "," {
			var e T
			ok := r.take(ahead) && r.read(l.parts(&e))
			if !yield(e, ok) || !ok || r.take(l.brackets[1:]) {
				return
			}
		}
	}
}
