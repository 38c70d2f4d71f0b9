// Package words: texts and numbers, which all layers write alike.
package words

import (
	"strconv"
	"strings"
)

// inNumbers: the bytes that numbers are written with.
const inNumbers = "-0123456789"

// Quote tells s between two `"`, with a `\` ahead of each `"` and `\` of it.
func Quote(s string) string {
	text := []byte{'"'}
	for i := range len(s) {
		if s[i] == '"' || s[i] == '\\' {
			text = append(text, '\\')
		}
		text = append(text, s[i])
	}
	return string(append(text, '"'))
}

// TakeQuoted tells what Quote wrote at the front of s, as new memory, and what is behind it; false: it wrote nothing there.
func TakeQuoted(s string) (text, behind string, ok bool) {
	s, opened := strings.CutPrefix(s, `"`)
	if !opened {
		return "", "", false
	}
	var plain []byte
	for i := 0; i < len(s); i++ {
		if s[i] == '"' {
			return string(plain), s[i+1:], true
		}
		if s[i] == '\\' {
			i++
			if i == len(s) || s[i] != '"' && s[i] != '\\' {
				return "", "", false
			}
		}
		plain = append(plain, s[i])
	}
	return "", "", false
}

// TakeNumber tells the number that all decimals and signs at the front of s write, and what is behind them.
// False: they write none (a leading nought, `-0`), or no 64 bits hold it.
func TakeNumber(s string) (n int64, behind string, ok bool) {
	behind = strings.TrimLeft(s, inNumbers)
	word := s[:len(s)-len(behind)]
	// The library reads noughts and a sign ahead that it would not write, and no number as another one.
	n, _ = strconv.ParseInt(word, 10, 64)
	if strconv.FormatInt(n, 10) != word {
		return 0, "", false
	}
	return n, behind, true
}
