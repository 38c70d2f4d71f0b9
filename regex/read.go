package regex

import (
	"strings"

	"belfry/api"
)

// Bytes that stand for themselves behind a `\` alone, beside the `\`: in brackets, and outside.
const (
	inBrackets = "]-^"
	outside    = "()[]|*+?"
)

// reader goes through a pattern from the left and makes its net.
// Behind an error it stands where the fault is.
type reader struct {
	text string
	at   int
	net  net
}

// peek tells the byte that the reader stands ahead of; behind the last one 0, which may stand nowhere.
func (r *reader) peek() byte {
	if r.at == len(r.text) {
		return 0
	}
	return r.text[r.at]
}

// skip tells whether c is there, and goes past it.
func (r *reader) skip(c byte) bool {
	if r.peek() != c {
		return false
	}
	r.at++
	return true
}

// whole reads a choice that nothing stands behind.
func (r *reader) whole() (piece, api.Errno) {
	all, e := r.choice(0)
	if e == api.OK && r.at < len(r.text) {
		return piece{}, api.ErrForm
	}
	return all, e
}

// choice reads rows with `|` between, in deep others.
func (r *reader) choice(deep int) (piece, api.Errno) {
	all, e := r.row(deep)
	for e == api.OK && r.skip('|') {
		var other piece
		other, e = r.row(deep)
		all = either(all, other)
	}
	return all, e
}

// row reads one part or more.
func (r *reader) row(deep int) (piece, api.Errno) {
	all, e := r.part(deep)
	for e == api.OK && r.at < len(r.text) && r.peek() != '|' && r.peek() != ')' {
		var other piece
		other, e = r.part(deep)
		all = r.net.chain(all, other)
	}
	return all, e
}

// part reads an atom, and how often it may be there.
func (r *reader) part(deep int) (piece, api.Errno) {
	p, e := r.atom(deep)
	switch {
	case e != api.OK:
		return piece{}, e
	case r.skip('*'):
		return perhaps(r.net.again(p)), api.OK
	case r.skip('+'):
		return r.net.again(p), api.OK
	case r.skip('?'):
		return perhaps(p), api.OK
	}
	return p, api.OK
}

// atom reads what stands for one byte, or a choice in `(` and `)`.
func (r *reader) atom(deep int) (piece, api.Errno) {
	switch r.peek() {
	case '(':
		return r.inner(deep)
	case '[':
		return r.brackets()
	case '.':
		r.at++
		return r.net.leaf(set[byte]{}.not()), api.OK
	}
	c, e := r.single(outside)
	if e != api.OK {
		return piece{}, e
	}
	return r.net.leaf(set[byte]{}.with(c)), api.OK
}

// inner reads a choice in `(` and `)`; ErrLong: the `(` is in more than MaxDeep others.
func (r *reader) inner(deep int) (piece, api.Errno) {
	if deep > api.MaxDeep {
		return piece{}, api.ErrLong
	}
	r.at++
	all, e := r.choice(deep + 1)
	if e == api.OK && !r.skip(')') {
		return piece{}, api.ErrForm
	}
	return all, e
}

// brackets reads `[`, perhaps `^`, bytes and ranges of bytes, `]`.
func (r *reader) brackets() (piece, api.Errno) {
	r.at++
	turned := r.skip('^')
	bytes, e := r.byteRange()
	for e == api.OK && !r.skip(']') {
		var more set[byte]
		more, e = r.byteRange()
		bytes = bytes.or(more)
	}
	if e != api.OK {
		return piece{}, e
	}
	if turned {
		bytes = bytes.not()
	}
	return r.net.leaf(bytes), api.OK
}

// byteRange reads, in brackets, a byte, or all from one to another with `-` between.
func (r *reader) byteRange() (set[byte], api.Errno) {
	low, e := r.single(inBrackets)
	if e != api.OK {
		return set[byte]{}, e
	}
	high := low
	if r.skip('-') {
		place := r.at
		high, e = r.single(inBrackets)
		if e == api.OK && high < low {
			r.at, e = place, api.ErrForm
		}
		if e != api.OK {
			return set[byte]{}, e
		}
	}
	var bytes set[byte]
	for c := low; c <= high; c++ {
		bytes = bytes.with(c)
	}
	return bytes, api.OK
}

// single reads a byte that is none of special, or `\` and any byte, and tells that one.
func (r *reader) single(special string) (byte, api.Errno) {
	behind := r.skip('\\')
	c := r.peek()
	if c < ' ' || c > '~' || !behind && strings.IndexByte(special, c) >= 0 {
		return 0, api.ErrForm
	}
	r.at++
	return c, api.OK
}
