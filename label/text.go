package label

import (
	"cmp"
	"iter"
	"slices"

	"belfry/api"
	"belfry/braces"
)

// is stands between a name and its value.
const is = "="

// What Hash begins with, and what it takes each byte times.
const (
	hashBegin = 0xCBF29CE484222325
	hashTimes = 0x100000001B3
)

// Text tells s as `{name="value",..}`.
func Text(s Set) string { return braces.Text(items(s)) }

// items goes through the labels of s as they are written.
func items(s Set) iter.Seq[braces.Item] {
	return func(yield func(braces.Item) bool) {
		for l := range slices.Values(s) {
			if !yield(braces.Item{Name: l.Name, Op: is, Value: l.Value}) {
				return
			}
		}
	}
}

// Parse tells the set that Text wrote as s; ErrForm: it wrote none so; what Check says of it.
func Parse(s string) (Set, api.Errno) {
	written, ok := braces.Parse(s, is)
	if !ok {
		return nil, api.ErrForm
	}
	var set Set
	for i := range slices.Values(written) {
		set = append(set, Label{i.Name, i.Value})
	}
	if e := Check(set); e != api.OK {
		return nil, e
	}
	return set, api.OK
}

// Hash tells the 64 bits that FNV-1a makes of the text of s.
func Hash(s Set) uint64 {
	hash := uint64(hashBegin)
	for _, c := range []byte(Text(s)) {
		hash = (hash ^ uint64(c)) * hashTimes
	}
	return hash
}

// Shard tells which of n parts s belongs to; 0, if n is below 1.
func Shard(s Set, n int) int {
	if n < 1 {
		return 0
	}
	return int(Hash(s) % uint64(n))
}

// Compare tells how the text of a stands to that of b, by bytes: -1, 0, 1.
func Compare(a, b Set) int { return cmp.Compare(Text(a), Text(b)) }
