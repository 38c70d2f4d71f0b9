package words_test

import (
	"fmt"
	"math"
	"strings"
	"testing"

	"belfry/words"
)

// The texts of labels (P301) and notes (P701), and the numbers of lines (P601) and notes, are held by the tests of those packages; here is how texts and numbers end.

func TestQuoteAndTakeQuoted(t *testing.T) {
	for s, want := range map[string]string{
		"": `""`, "x": `"x"`, " ": `" "`, "a b": `"a b"`, `"`: `"\""`, `\`: `"\\"`, `\"`: `"\\\""`, `"\`: `"\"\\"`, `x"y\z`: `"x\"y\\z"`, `\n`: `"\\n"`,
		"\n\x00\xff": "\"\n\x00\xff\"", "\u00e9": "\"\u00e9\"", strings.Repeat(`"`, 1<<16): `"` + strings.Repeat(`\"`, 1<<16) + `"`,
	} {
		if got := words.Quote(s); got != want {
			t.Errorf("%.99q: %.99s; want %.99s", s, got, want)
		}
		for _, behind := range []string{"", "x", `"`, `"x"`, `\`, " "} {
			if text, rest, ok := words.TakeQuoted(want + behind); text != s || rest != behind || !ok {
				t.Errorf("%.99q: %.99q, %q, %v; want %.99q, %q", want+behind, text, rest, ok, s, behind)
			}
		}
	}
}

func TestTakeQuotedRefuses(t *testing.T) {
	l := []string{"", "x", `x"`, ` "x"`, `"`, `"x`, `"\`, `"\"`, `"x\"`, `"\\\"`, `'x'`, `\"x\"`, `"\x"`, `"\n"`, `"\u0041"`, "\"\\\x00\"", "\"\\\xff\"", `"` + strings.Repeat(`\"`, 1<<16)}
	for _, s := range l {
		if text, behind, ok := words.TakeQuoted(s); text != "" || behind != "" || ok {
			t.Errorf("%.99q: %.99q, %.99q, %v; want none", s, text, behind, ok)
		}
	}
}

func TestTakeNumber(t *testing.T) {
	for _, n := range []int64{0, 1, -1, 9, 10, -10, 70, 1234567890, math.MaxInt64, math.MaxInt64 - 1, math.MinInt64, math.MinInt64 + 1} {
		for _, behind := range []string{"", " ", "x", " 5", ",5", ".5", "e5", "/5", "+5", "\x00", "\xff", "\u0661"} {
			s := fmt.Sprint(n) + behind
			if got, rest, ok := words.TakeNumber(s); got != n || rest != behind || !ok {
				t.Errorf("%q: %d, %q, %v; want %d, %q", s, got, rest, ok, n, behind)
			}
		}
	}
}

func TestTakeNumberRefuses(t *testing.T) {
	for _, s := range []string{
		"", "-", "--1", "+1", "-0", "00", "01", "-01", "1-", "1-1", "0-", " 1", "x", "x1", ".5", "_1", "\u0661",
		"9223372036854775808", "-9223372036854775809", "18446744073709551616", "18446744073709551686", "000000000000000000001", strings.Repeat("9", 1<<16), strings.Repeat("0", 1<<16), strings.Repeat("-", 1<<16),
	} {
		for _, behind := range []string{"", " ", "x"} {
			if n, rest, ok := words.TakeNumber(s + behind); n != 0 || rest != "" || ok {
				t.Errorf("%.99q: %d, %.99q, %v; want none", s+behind, n, rest, ok)
			}
		}
	}
}
