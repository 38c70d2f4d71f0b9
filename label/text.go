package label

import (
	"cmp"
	"iter"
	"slices"
	"strings"

	"belfry/api"
)

// What Hash begins with, and what it takes each byte times.
const (
	hashBegin = 0xCBF29CE484222325
	hashTimes = 0x100000001B3
)

// Text tells s as `{name="value",..}`.
func Text(s Set) string {
	text, ahead := []byte{'{'}, ""
	for l := range slices.Values(s) {
		text = append(text, ahead+l.Name+`="`...)
		text = append(appendEscaped(text, l.Value), '"')
		ahead = ","
	}
	return string(append(text, '}'))
}

// appendEscaped tells text with s behind it, a `\` ahead of each `"` and `\` of s.
func appendEscaped(text []byte, s string) []byte {
	for i := range len(s) {
		if s[i] == '"' || s[i] == '\\' {
			text = append(text, '\\')
		}
		text = append(text, s[i])
	}
	return text
}

// Parse tells the set that Text wrote as s; ErrForm: it wrote none so; what Check says of it.
func Parse(s string) (Set, api.Errno) {
	var set Set
	for l, ok := range written(s) {
		if !ok {
			return nil, api.ErrForm
		}
		set = append(set, l)
	}
	if e := Check(set); e != api.OK {
		return nil, e
	}
	return set, api.OK
}

// written goes through the labels of the text s; the last one comes with false where s goes on as no text does.
func written(s string) iter.Seq2[Label, bool] {
	return func(yield func(Label, bool) bool) {
		if behind, none := strings.CutPrefix(s, "{}"); none {
			if behind != "" {
				yield(Label{}, false)
			}
			return
		}
		ahead, rest := "{", s
		for {
			l, behind, ok := take(ahead, rest)
			if !yield(l, ok) || !ok || behind == "}" {
				return
			}
			ahead, rest = ",", behind
		}
	}
}

// take tells the label at the front of s, which ahead stands before, and what is behind it; false: there is none.
func take(ahead, s string) (l Label, behind string, ok bool) {
	s, begun := strings.CutPrefix(s, ahead)
	name, s, _ := strings.Cut(s, "=")
	s, opened := strings.CutPrefix(s, `"`) // so there was a `=`, too
	value, behind, closed := takeEscaped(s)
	if !begun || !opened || !closed {
		return Label{}, "", false
	}
	return Label{name, value}, behind, true
}

// takeEscaped tells what appendEscaped wrote up to the first `"` without a `\` ahead, and what is behind that; false: it wrote nothing so.
func takeEscaped(s string) (value, behind string, ok bool) {
	var plain []byte
	for i := 0; i < len(s); i++ {
		if s[i] == '"' {
			return string(plain), s[i+1:], true
		}
		if s[i] == '\\' {
			i++
			if i == len(s) || s[i] != '"' && s[i] != '\\' {
				return "", "", false
			}
		}
		plain = append(plain, s[i])
	}
	return "", "", false
}

// Hash tells the 64 bits that FNV-1a makes of the text of s.
func Hash(s Set) uint64 {
	hash := uint64(hashBegin)
	for _, c := range []byte(Text(s)) {
		hash = (hash ^ uint64(c)) * hashTimes
	}
	return hash
}

// Shard tells which of n parts s belongs to; 0, if n is below 1.
func Shard(s Set, n int) int {
	if n < 1 {
		return 0
	}
	return int(Hash(s) % uint64(n))
}

// Compare tells how the text of a stands to that of b, by bytes: -1, 0, 1.
func Compare(a, b Set) int { return cmp.Compare(Text(a), Text(b)) }
