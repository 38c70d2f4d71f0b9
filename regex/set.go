package regex

import (
	"iter"
	"math/bits"
)

// set is a set of numbers of eight bits, such as bytes or states: a bit for each.
type set[E ~uint8] [4]uint64

// has tells whether x is in s.
func (s set[E]) has(x E) bool { return s[x/64]>>(x%64)&1 == 1 }

// with tells s and x.
func (s set[E]) with(x E) set[E] {
	s[x/64] |= 1 << (x % 64)
	return s
}

// or tells what is in s or in t.
func (s set[E]) or(t set[E]) set[E] {
	for i := range s {
		s[i] |= t[i]
	}
	return s
}

// not tells what is not in s.
func (s set[E]) not() set[E] {
	for i := range s {
		s[i] = ^s[i]
	}
	return s
}

// all goes through what is in s, rising.
func (s set[E]) all() iter.Seq[E] {
	return func(yield func(E) bool) {
		for i, word := range s {
			for ; word != 0; word &= word - 1 {
				if !yield(E(i*64 + bits.TrailingZeros64(word))) {
					return
				}
			}
		}
	}
}
