package regex

// state is where a pattern stands: ahead of one byte that it takes, or at its end.
// There is one for each byte of the pattern at most, and the end, so that a set holds them all.
type state uint8

// end is the state behind all that the pattern takes.
const end state = 0

// node is what a state takes, and where the pattern may stand behind that.
type node struct {
	takes set[byte]
	next  set[state]
}

// net is the nodes of all states, that of the end first, which takes nothing.
type net []node

// piece is what a part of the pattern comes to: the states that it may begin with and those that may be its last, and whether it takes no byte, too.
// A way that takes no byte has no state, so that a walk never turns round in one place.
type piece struct {
	first, last set[state]
	none        bool
}

// leaf tells the piece of a new state that takes one of these bytes.
func (n *net) leaf(takes set[byte]) piece {
	*n = append(*n, node{takes: takes})
	at := set[state]{}.with(state(len(*n) - 1))
	return piece{first: at, last: at}
}

// join lets each state of next stand behind each of last.
func (n net) join(last, next set[state]) {
	for at := range last.all() {
		n[at].next = n[at].next.or(next)
	}
}

// chain tells the piece of a, and b behind it.
func (n net) chain(a, b piece) piece {
	n.join(a.last, b.first)
	if a.none {
		a.first = a.first.or(b.first)
	}
	if b.none {
		b.last = b.last.or(a.last)
	}
	return piece{a.first, b.last, a.none && b.none}
}

// again tells the piece of a, once or more.
func (n net) again(a piece) piece {
	n.join(a.last, a.first)
	return a
}

// either tells the piece of a or b.
func either(a, b piece) piece {
	return piece{a.first.or(b.first), a.last.or(b.last), a.none || b.none}
}

// perhaps tells the piece of a, or of nothing.
func perhaps(a piece) piece {
	a.none = true
	return a
}

// finish tells the states that the pattern begins with, the end behind all of it.
func (n net) finish(all piece) set[state] {
	last := set[state]{}.with(end)
	return n.chain(all, piece{first: last, last: last}).first
}
