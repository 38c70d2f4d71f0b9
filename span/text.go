package span

import (
	"math"
	"strconv"
	"strings"

	"belfry/api"
)

const decimals = "0123456789"

// unit is a word, how many milliseconds it stands for, and how many of it are at most written as such.
type unit struct {
	word       string
	size, most uint64
}

// units goes through all units, the greatest first.
func units(yield func(unit) bool) {
	for _, u := range [...]unit{
		{"d", 86400000, math.MaxUint64},
		{"h", 3600000, 23},
		{"m", 60000, 59},
		{"s", 1000, 59},
		{"ms", 1, 999},
	} {
		if !yield(u) {
			return
		}
	}
}

// Text tells d by its units, the greatest first, those of 0 left out.
func Text(d int64) string {
	if d == 0 {
		return "0"
	}
	var text []byte
	left := uint64(d)
	if d < 0 {
		text, left = append(text, '-'), -left // without a sign also the least number can be turned
	}
	for u := range units {
		if n := left / u.size; n > 0 {
			text = append(strconv.AppendUint(text, n, 10), u.word...)
		}
		left %= u.size
	}
	return string(text)
}

// Parse tells what Text wrote as s; ErrForm: it wrote nothing so; ErrArg: it is above MaxTime.
func Parse(s string) (int64, api.Errno) {
	if s == "0" {
		return 0, api.OK
	}
	sum, rest := uint64(0), s
	for u := range units {
		if rest == "" {
			break
		}
		// A part that no unit takes stays till the end, and then the form is none.
		if n, behind, ok := u.take(rest); ok {
			// One too many of a unit is as much above MaxTime as any more are, and the sum stays small.
			sum += min(n, api.MaxTime/u.size+1) * u.size
			rest = behind
		}
	}
	if s == "" || rest != "" {
		return 0, api.ErrForm
	}
	if sum > api.MaxTime {
		return 0, api.ErrArg
	}
	return int64(sum), api.OK
}

// take tells how many of u stand at the front of s, and what is behind them; false: s does not begin with a part of u as Text writes it.
// More than 64 bits hold are told as the most that they do.
func (u unit) take(s string) (n uint64, behind string, ok bool) {
	tail := strings.TrimLeft(s, decimals)
	digits := s[:len(s)-len(tail)]
	if digits == "" || digits[0] == '0' {
		return 0, "", false
	}
	word := tail
	if i := strings.IndexAny(tail, decimals); i >= 0 {
		word = tail[:i]
	}
	n, _ = strconv.ParseUint(digits, 10, 64)
	if word != u.word || n > u.most {
		return 0, "", false
	}
	return n, tail[len(word):], true
}
