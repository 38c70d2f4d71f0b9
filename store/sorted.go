package store

import (
	"cmp"
	"iter"
	"slices"
)

// mostRow is how many entries a row has at most: so few that one more among them moves little, whatever the order in which keys come.
const mostRow = 256

// sorted is a map whose keys are gone through rising: rows of entries, none of them empty.
type sorted[K cmp.Ordered, V any] struct {
	rows [][]entry[K, V]
}

// entry is a key, and where its value is for as long as it is there.
type entry[K cmp.Ordered, V any] struct {
	key   K
	value *V
}

// none tells whether there is nothing.
func (m *sorted[K, V]) none() bool { return len(m.rows) == 0 }

// get tells the value of k; false: there is none.
func (m *sorted[K, V]) get(k K) (*V, bool) {
	row, at, ok := m.place(k)
	if !ok {
		return nil, false
	}
	return m.rows[row][at].value, true
}

// at tells the value of k, a new one if there is none.
func (m *sorted[K, V]) at(k K) *V {
	row, at, ok := m.place(k)
	if ok {
		return m.rows[row][at].value
	}
	v := new(V)
	m.insert(row, at, entry[K, V]{k, v})
	return v
}

// drop takes k away, if it is there.
func (m *sorted[K, V]) drop(k K) {
	row, at, ok := m.place(k)
	if !ok {
		return
	}
	m.rows[row] = slices.Delete(m.rows[row], at, at+1)
	if len(m.rows[row]) == 0 {
		m.rows = slices.Delete(m.rows, row, row+1)
	}
}

// above goes through the entries whose keys are above k, rising; what it is at may be dropped meanwhile.
func (m *sorted[K, V]) above(k K) iter.Seq2[K, *V] {
	return func(yield func(K, *V) bool) {
		e, ok := m.next(k)
		for ok && yield(e.key, e.value) {
			e, ok = m.next(e.key)
		}
	}
}

// next tells the entry of the least key above k; false: there is none.
func (m *sorted[K, V]) next(k K) (entry[K, V], bool) {
	row, at, ok := m.place(k)
	if ok {
		at++
	}
	if row < len(m.rows) && at == len(m.rows[row]) {
		row, at = row+1, 0
	}
	if row == len(m.rows) {
		return entry[K, V]{}, false
	}
	return m.rows[row][at], true
}

// place tells the row of k, and its place there; false: it is not there, but would be.
func (m *sorted[K, V]) place(k K) (int, int, bool) {
	if m.none() {
		return 0, 0, false
	}
	row, _ := slices.BinarySearchFunc(m.rows, k, func(l []entry[K, V], k K) int {
		return cmp.Compare(l[len(l)-1].key, k)
	})
	// What is above all keys belongs behind the last one.
	row = min(row, len(m.rows)-1)
	at, ok := slices.BinarySearchFunc(m.rows[row], k, func(e entry[K, V], k K) int {
		return cmp.Compare(e.key, k)
	})
	return row, at, ok
}

// insert lays e there, and parts a row that has become too long.
func (m *sorted[K, V]) insert(row, at int, e entry[K, V]) {
	if m.none() {
		m.rows = [][]entry[K, V]{{e}}
		return
	}
	l := slices.Insert(m.rows[row], at, e)
	if len(l) > mostRow {
		half := len(l) / 2
		m.rows = slices.Insert(m.rows, row+1, slices.Clone(l[half:]))
		l = slices.Delete(l, half, len(l))
	}
	m.rows[row] = l
}
