// Package braces: how labels, and what is asked of them, are written: `{name="value",..}`, with other words for the `=`, too.
package braces

import (
	"iter"
	"slices"
	"strings"

	"belfry/words"
)

// Item is a name, the word between it and its value, and the value.
type Item struct{ Name, Op, Value string }

// Text tells items as `{name="value",..}`, with Op for `=`; in values `"` and `\` have a `\` ahead.
func Text(items iter.Seq[Item]) string {
	text, ahead := []byte{'{'}, ""
	for i := range items {
		text = append(text, ahead+i.Name+i.Op+words.Quote(i.Value)...)
		ahead = ","
	}
	return string(append(text, '}'))
}

// Parse tells the items that Text wrote as s; false: it wrote none so.
// A name is the bytes up to the first that one of ops begins with; there the longest of ops is its Op.
func Parse(s string, ops ...string) ([]Item, bool) {
	var items []Item
	for i, ok := range written(s, ops) {
		if !ok {
			return nil, false
		}
		items = append(items, i)
	}
	return items, true
}

// written goes through the items of the text s; the last one comes with false where s goes on as no text does.
func written(s string, ops []string) iter.Seq2[Item, bool] {
	return func(yield func(Item, bool) bool) {
		if behind, none := strings.CutPrefix(s, "{}"); none {
			if behind != "" {
				yield(Item{}, false)
			}
			return
		}
		ahead, rest := "{", s
		for {
			i, behind, ok := take(ahead, rest, ops)
			if !yield(i, ok) || !ok || behind == "}" {
				return
			}
			ahead, rest = ",", behind
		}
	}
}

// take tells the item at the front of s, which ahead stands before, and what is behind it; false: there is none.
func take(ahead, s string, ops []string) (i Item, behind string, ok bool) {
	s, begun := strings.CutPrefix(s, ahead)
	name, s := cutName(s, ops)
	op := longest(s, ops)
	value, behind, quoted := words.TakeQuoted(s[len(op):])
	if !begun || op == "" || !quoted {
		return Item{}, "", false
	}
	// A name of its own, as it would keep the whole text with it.
	return Item{strings.Clone(name), op, value}, behind, true
}

// cutName tells what is ahead of the first byte of s that one of ops begins with, and s from there on.
func cutName(s string, ops []string) (name, behind string) {
	for i := range len(s) {
		if slices.ContainsFunc(ops, func(op string) bool { return strings.HasPrefix(op, s[i:i+1]) }) {
			return s[:i], s[i:]
		}
	}
	return s, ""
}

// longest tells the longest of ops that s begins with; an empty one: it does with none.
func longest(s string, ops []string) string {
	found := ""
	for op := range slices.Values(ops) {
		if len(op) > len(found) && strings.HasPrefix(s, op) {
			found = op
		}
	}
	return found
}
