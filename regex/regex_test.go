package regex_test

import (
	"fmt"
	"regexp"
	"strings"
	"testing"

	"belfry/api"
	"belfry/regex"
)

// read tells the pattern s, which must be one.
func read(t *testing.T, s string) *regex.Regex {
	t.Helper()
	r, at, e := regex.Compile(s)
	if e != api.OK {
		t.Fatalf("%q: %v at %d", s, e, at)
	}
	return r
}

// matches sees to it that r takes s, or does not.
func matches(t *testing.T, r *regex.Regex, s string, want bool) {
	t.Helper()
	if got := r.Match(s); got != want {
		t.Errorf("%q, %.99q: %v; want %v", r.Text(), s, got, want)
	}
}

func TestMatch(t *testing.T) {
	for _, x := range []struct {
		s          string
		takes, not []string
	}{
		// bytes, rows, choices
		{"a", []string{"a"}, []string{"", "b", "A", "aa", "ab", "ba", " a", "a ", "a\n", "\xff"}},
		{"abc", []string{"abc"}, []string{"", "a", "ab", "bc", "abcd", "abcabc", "acb", "xabc"}},
		{"a|b", []string{"a", "b"}, []string{"", "ab", "a|b", "c", "aa"}},
		{"ab|cd|e", []string{"ab", "cd", "e"}, []string{"", "abd", "acd", "abcd", "abe", "a", "cde"}},
		{"a|ab", []string{"a", "ab"}, []string{"b", "aab", "aba"}},
		{"ab|a", []string{"a", "ab"}, []string{"b", "aab", "aba"}},
		{"a|a", []string{"a"}, []string{"", "aa"}},
		{"(a)", []string{"a"}, []string{"", "(a)", "aa"}},
		{"x(a|b)y", []string{"xay", "xby"}, []string{"xy", "xa", "by", "xaby", "x"}},
		{"(a|(b|c)d)e", []string{"ae", "bde", "cde"}, []string{"be", "de", "ade", "abde", "bcde"}},
		{"(a|ab)(c|bcd)", []string{"ac", "abcd", "abc", "abbcd"}, []string{"a", "ab", "abcdc", "acd"}},
		{nested(9, "a|b"), []string{"a", "b"}, []string{"", "ab", "((a"}},
		{"foo.*|bar", []string{"foo", "foobar", "bar"}, []string{"fo", "xbar", "barx", "bafoo"}},
		// each of *, +, ? behind each kind of atom
		{"a*", []string{"", "a", "aa", strings.Repeat("a", 99)}, []string{"b", "ab", "ba", "aba", "a*"}},
		{"a+", []string{"a", "aa", strings.Repeat("a", 99)}, []string{"", "b", "ab", "ba", "a+"}},
		{"a?", []string{"", "a"}, []string{"aa", "b", "ab", "a?"}},
		{".*", []string{"", "a", "ab", "\x00\n\xff"}, nil},
		{".+", []string{"a", "ab", "\x00\n\xff", "\xff"}, []string{""}},
		{".?", []string{"", "a", "\xff", "\n"}, []string{"aa", "\u00e9"}},
		{"[ab]*", []string{"", "a", "b", "ab", "bba"}, []string{"c", "abc", "cab"}},
		{"[ab]+", []string{"a", "b", "ab", "bba"}, []string{"", "c", "abc", "cab"}},
		{"[ab]?", []string{"", "a", "b"}, []string{"ab", "c", "aa"}},
		{"[^ab]*", []string{"", "c", "cc", "\xff\x00"}, []string{"a", "ca", "ccb", "acc"}},
		{"[^ab]+", []string{"c", "cc", "\xff\x00"}, []string{"", "a", "ca", "ccb"}},
		{"[^ab]?", []string{"", "c", "\xff"}, []string{"a", "cc", "b"}},
		{"(ab)*", []string{"", "ab", "abab"}, []string{"a", "b", "aba", "abb", "ba"}},
		{"(ab)+", []string{"ab", "abab", "ababab"}, []string{"", "a", "aba", "abb", "ba"}},
		{"(ab)?", []string{"", "ab"}, []string{"a", "abab", "b"}},
		{"(a|bc)*", []string{"", "a", "bc", "abc", "bca", "aabcbca"}, []string{"b", "c", "ab", "cb"}},
		{`\**`, []string{"", "*", "**"}, []string{"\\", "a", "\\*"}},
		{`\++`, []string{"+", "++"}, []string{"", "\\+"}},
		{`\??`, []string{"", "?"}, []string{"??", "\\"}},
		{"ab*", []string{"a", "ab", "abb"}, []string{"", "abab", "aab"}},
		{"a*b", []string{"b", "ab", "aab"}, []string{"", "a", "abb"}},
		{"a+b+", []string{"ab", "aab", "abb"}, []string{"a", "b", "ba", "aba"}},
		{"a?b?c", []string{"c", "ac", "bc", "abc"}, []string{"", "ab", "bac", "aac"}},
		{"a*|b", []string{"", "a", "aa", "b"}, []string{"ab", "bb", "ba"}},
		{"b|a*", []string{"", "a", "aa", "b"}, []string{"ab", "bb", "ba"}},
		{"a*b*c*", []string{"", "a", "b", "c", "ac", "aabbcc", "bc"}, []string{"ba", "ca", "aca", "d"}},
		{"a.*b", []string{"ab", "aab", "abb", "axxb", "a\n\xffb"}, []string{"a", "b", "ba", "abx"}},
		// what takes nothing, under * and +
		{"(a*)*", []string{"", "a", "aaa"}, []string{"b", "ab"}},
		{"(a*)+", []string{"", "a", "aaa"}, []string{"b", "ab"}},
		{"(a?)*", []string{"", "a", "aaa"}, []string{"b", "ab"}},
		{"(a?)+", []string{"", "a", "aaa"}, []string{"b", "ab"}},
		{"(a*)?", []string{"", "a", "aaa"}, []string{"b", "ab"}},
		{"(a*|b)*", []string{"", "a", "b", "abba"}, []string{"c", "abc"}},
		{"(a*b*)+", []string{"", "a", "b", "abba"}, []string{"c", "abc"}},
		{"(a?b?)+c", []string{"c", "ac", "bac", "abbac"}, []string{"", "ab", "ca"}},
		{"((a*)*)*", []string{"", "a", "aaa"}, []string{"b", "ab"}},
		{"x(a*)*y", []string{"xy", "xay", "xaay"}, []string{"x", "y", "xa", "ay"}},
		{"(a+)+", []string{"a", "aaa"}, []string{"", "b"}},
		{"(a+|b*)c?", []string{"", "a", "aa", "b", "bb", "c", "ac", "bbc"}, []string{"ab", "cc", "ca"}},
		// sets
		{"[a]", []string{"a"}, []string{"", "b", "aa", "[a]", "\xff"}},
		{"[abc]", []string{"a", "b", "c"}, []string{"d", "ab", ""}},
		{"[b-d]", []string{"b", "c", "d"}, []string{"a", "e", "-", "bc"}},
		{"[b-b]", []string{"b"}, []string{"a", "c", "-"}},
		{"[a-cx0-9]", []string{"a", "b", "c", "x", "0", "5", "9"}, []string{"d", "w", "y", "-", "/", ":"}},
		{"[a-cb-d]", []string{"a", "b", "c", "d"}, []string{"e", "-"}},
		{"[^b]", []string{"a", "c", "^", " ", "~", "\x00", "\n", "\x7f", "\x80", "\xff"}, []string{"b", "", "aa", "\u00e9"}},
		{"[^a-c]", []string{"d", "`", "-", "^", "\xff"}, []string{"a", "b", "c", ""}},
		{"[^ -~]", []string{"\x00", "\x1f", "\n", "\x7f", "\x80", "\xff"}, []string{" ", "a", "~", ""}},
		{"[ -~]", []string{" ", "a", "~", "^", "-", "]"}, []string{"\x1f", "\x7f", "\xff", ""}},
		{`[\]]`, []string{"]"}, []string{"\\", "", "\\]"}},
		{`[\\]`, []string{"\\"}, []string{"]", "\\\\"}},
		{`[\-]`, []string{"-"}, []string{"\\", ","}},
		{`[\^]`, []string{"^"}, []string{"\\", "a"}},
		{`[^\^]`, []string{"\\", "a"}, []string{"^"}},
		{`[^\]\\\-\^]`, []string{"a", "["}, []string{"]", "\\", "-", "^"}},
		{`[a\-c]`, []string{"a", "-", "c"}, []string{"b", "\\"}},
		{`[\--0]`, []string{"-", ".", "/", "0"}, []string{",", "1", "\\"}},
		{`[+-\-]`, []string{"+", ",", "-"}, []string{"*", ".", "\\"}},
		{`[Z-\]]`, []string{"Z", "[", "\\", "]"}, []string{"Y", "^", "-"}},
		{`[\\-\^]`, []string{"\\", "]", "^"}, []string{"[", "_", "-"}},
		{`[x-\z]`, []string{"x", "y", "z"}, []string{"w", "{", "\\", "-"}},
		{`[\a]`, []string{"a"}, []string{"\\", "\a"}},
		{"[.*+?()|$[]", []string{".", "*", "+", "?", "(", ")", "|", "$", "["}, []string{"a", "]", "\\"}},
		// a \ and any byte
		{`\a`, []string{"a"}, []string{"\\", "\\a", "\a"}},
		{`\n\d\b\.`, []string{"ndb."}, []string{"\n0.", "ndbx"}},
		{`\.`, []string{"."}, []string{"a", "\\"}},
		{`\(a\)`, []string{"(a)"}, []string{"a"}},
		{`\[a\]`, []string{"[a]"}, []string{"a"}},
		{`a\|b`, []string{"a|b"}, []string{"a", "b"}},
		{`\\`, []string{"\\"}, []string{"\\\\", ""}},
		{`\ \~`, []string{" ~"}, []string{"~"}},
		// what is no more than a byte
		{"^a$", []string{"^a$"}, []string{"a"}},
		{"a{2}", []string{"a{2}"}, []string{"aa"}},
		{"a-b", []string{"a-b"}, []string{"a", "b"}},
		{"a*-*", []string{"", "a", "-", "aa--"}, []string{"-a"}},
		{"^*", []string{"", "^", "^^"}, []string{"a"}},
		{" ", []string{" "}, []string{"", "  ", "\t"}},
		{"~+", []string{"~", "~~"}, []string{"", "}"}},
		// bytes, not runes
		{"..", []string{"ab", "\u00e9", "\xff\x00"}, []string{"a", "\u20ac", "\xff"}},
		{"[^a][^a]", []string{"bb", "\u00e9"}, []string{"ab", "\u20ac"}},
		{"[^a]*", []string{"", "\u20ac\u00e9", "\xff\xfe"}, []string{"\u20aca"}},
		{"a.b", []string{"axb", "a\nb", "a\xffb", "a.b"}, []string{"ab", "a\u00e9b"}},
		{filled("a"), []string{filled("a")}, []string{filled("a")[1:], filled("a") + "a", ""}},
		{filled("a*"), []string{"", "a", filled("a"), filled("aa") + "a"}, []string{"b", filled("a") + "b"}},
		{filled("a?"), []string{"", "a", filled("a")[:32]}, []string{"b", filled("a")[:33]}},
		{filled("."), []string{filled("\xff\x00")}, []string{filled(".")[1:], filled(".") + "."}},
	} {
		r := read(t, x.s)
		for _, s := range x.takes {
			matches(t, r, s, true)
		}
		for _, s := range x.not {
			matches(t, r, s, false)
		}
	}
}

// TestMatchOfEachByte holds all texts of one byte against what each kind of atom takes.
func TestMatchOfEachByte(t *testing.T) {
	every, high, turned := read(t, "."), read(t, "[^ -~]"), read(t, "[^b-d]")
	for b := range 256 {
		c := string([]byte{byte(b)})
		may := 0x20 <= b && b <= 0x7E
		matches(t, every, c, true)
		matches(t, high, c, !may)
		matches(t, turned, c, b < 'b' || b > 'd')
		if !may {
			continue
		}
		not := read(t, `[^\`+c+"]")
		for _, s := range []string{`\` + c, `[\` + c + `]`, `[\` + c + `-\` + c + `]`} {
			r := read(t, s)
			for other := range 256 {
				matches(t, r, string([]byte{byte(other)}), other == b)
				matches(t, not, string([]byte{byte(other)}), other != b)
			}
			matches(t, r, "", false)
			matches(t, r, c+c, false)
		}
		for _, last := range []byte{'~', byte(b), byte(b + 3)} {
			if last > '~' {
				continue
			}
			r := read(t, `[\`+c+`-\`+string(last)+`]`)
			for other := range 256 {
				matches(t, r, string([]byte{byte(other)}), b <= other && other <= int(last))
			}
		}
	}
}

// other tells how the library writes the pattern s, for texts whose bytes are told as runes.
func other(s string) string {
	var b strings.Builder
	for i, in := 0, false; i < len(s); i++ {
		c := s[i]
		switch {
		case c == '\\':
			i++
			fmt.Fprintf(&b, `\x{%x}`, s[i])
		case in && (c == '-' || c == '^' || c == ']'), !in && strings.IndexByte("()[]|*+?.", c) >= 0:
			in = c != ']' && (in || c == '[')
			b.WriteByte(c)
		default:
			fmt.Fprintf(&b, `\x{%x}`, c)
		}
	}
	return "(?s)^(?:" + b.String() + ")$"
}

// TestMatchOfAll holds Match against the library, for all patterns and texts that a few bytes make.
func TestMatchOfAll(t *testing.T) {
	for _, x := range []struct {
		ahead, bytes string
		most         int
		in           string // what the texts are made of
		long         int
	}{
		{"", "ab.()[]|*+?\\^-", 4, "ab*\xff", 3},
		{"", "ab(|)*", 7, "ab", 4},
		{"(a", "b?+*)(|", 5, "ab", 5},
		{"[", "ac-^]\\*", 5, "abc-^]\\\x80", 1},
	} {
		var texts, told []string
		each(x.in, x.long, "", func(s string) {
			runes := make([]rune, len(s))
			for i := range len(s) {
				runes[i] = rune(s[i])
			}
			texts, told = append(texts, s), append(told, string(runes))
		})
		count := 0
		each(x.bytes, x.most, x.ahead, func(s string) {
			r, _, e := regex.Compile(s)
			if e != api.OK {
				return
			}
			count++
			std := regexp.MustCompile(other(s))
			for i := range texts {
				if want := std.MatchString(told[i]); r.Match(texts[i]) != want {
					t.Errorf("%q, %q: %v; want %v", s, texts[i], !want, want)
				}
			}
		})
		if count < 100 {
			t.Errorf("%q: %d patterns only", x.bytes, count)
		}
	}
}

// TestMatchAgain holds that no match tells in a later one, nor one pattern in another.
func TestMatchAgain(t *testing.T) {
	texts := []string{"", "a", "ab", "abab", "aba", "b", "abc", "ba", strings.Repeat("ab", 99), "\xff"}
	first, second, another := read(t, "(ab)*|b"), read(t, "(ab)*|b"), read(t, "a.?")
	var want []bool
	for _, s := range texts {
		want = append(want, read(t, "(ab)*|b").Match(s))
	}
	for range 3 {
		for i, s := range texts {
			matches(t, first, s, want[i])
			another.Match(s)
			matches(t, first, s, want[i])
		}
		for i := range texts {
			k := len(texts) - 1 - i
			matches(t, first, texts[k], want[k])
			matches(t, second, texts[k], want[k])
		}
	}
	if first.Text() != "(ab)*|b" || another.Text() != "a.?" {
		t.Errorf("the texts are %q, %q", first.Text(), another.Text())
	}
	if first == second {
		t.Error("two patterns are one")
	}
}

// TestMatchAtOnce matches with one pattern from many sides: nothing about it may change.
func TestMatchAtOnce(t *testing.T) {
	r := read(t, "(a|b)*c")
	done := make(chan bool)
	for i := range 8 {
		go func() {
			done <- r.Match(strings.Repeat("ab", 50*i)+"c") && !r.Match(strings.Repeat("ba", i)+"d")
		}()
	}
	for range 8 {
		if !<-done {
			t.Error("wrong beside others")
		}
	}
}

// TestMatchTakesNotLong holds patterns that have very many ways through a text.
func TestMatchTakesNotLong(t *testing.T) {
	long := strings.Repeat("a", 20000)
	for _, s := range []string{"(a*)*b", "(a|a)*b", "(a?)*b", "((a+)+)+b", "(a*)*(a|a)*(a?)*b", filled("a*")[:62] + "b", filled("a?")[:60] + "a*b", "([^b]*)([^b]*)(a*)([^b]*)([^b]*)b", "((((((((a*)*)*)*)*)*)*)*)*b"} {
		r := read(t, s)
		matches(t, r, long, false)
		matches(t, r, long+"b", true)
		matches(t, r, long+"bb", false)
	}
}

func TestText(t *testing.T) {
	for _, s := range []string{"a", " ", `\a`, `[\]-\^]`, "(a|b)*c?", nested(9, "a"), filled("[^a-z]"), `\\`} {
		if got := read(t, s).Text(); got != s {
			t.Errorf("%q: %q", s, got)
		}
	}
}

func TestQuote(t *testing.T) {
	for s, want := range map[string]string{
		"": "", "a": "a", "abc": "abc", " ~": " ~", "a-b": "a-b", "^$": "^$", "{2}": "{2}", "/\"',:;<=>@_`#%&!": "/\"',:;<=>@_`#%&!",
		"(": `\(`, ")": `\)`, "[": `\[`, "]": `\]`, "|": `\|`, "*": `\*`, "+": `\+`, "?": `\?`, `\`: `\\`, ".": `\.`,
		`()[]|*+?\.`: `\(\)\[\]\|\*\+\?\\\.`, "a.b": `a\.b`, "..": `\.\.`, `\.`: `\\\.`, "(a|b)*": `\(a\|b\)\*`, "[^a-z]": `\[^a-z\]`, "\\\\": `\\\\`,
		// what no pattern may hold stays as it is
		"\x00.\xff": "\x00\\.\xff", "\u00e9+": "\u00e9\\+", "\n": "\n",
	} {
		if got := regex.Quote(s); got != want {
			t.Errorf("%q: %q; want %q", s, got, want)
		}
	}
	if got := regex.Quote(strings.Repeat(".", 1000)); got != strings.Repeat(`\.`, 1000) {
		t.Errorf("1000 of them: %d bytes", len(got))
	}
}

// TestQuoteTakesItAlone holds that what is quoted is a pattern, which takes that and nothing else.
func TestQuoteTakesItAlone(t *testing.T) {
	var each []string
	for b := 0x20; b <= 0x7E; b++ {
		each = append(each, string([]byte{byte(b)}))
	}
	for _, s := range each {
		want := s
		if strings.Contains(`()[]|*+?\.`, s) {
			want = `\` + s
		}
		if got := regex.Quote(s); got != want {
			t.Errorf("%q: %q; want %q", s, got, want)
		}
		r := read(t, regex.Quote(s))
		for _, x := range each {
			matches(t, r, x, x == s)
		}
		matches(t, r, "", false)
		matches(t, r, s+s, false)
	}
	for _, s := range []string{`()[]|*+?\.`, "a.b", "(a|b)*", "[^a-z]+", "x?", `\`, `\\`, "{job=\"web\"}", filled("a"), strings.Repeat(".", 32)} {
		r := read(t, regex.Quote(s))
		matches(t, r, s, true)
		for i := range len(s) {
			matches(t, r, s[:i], false)
			matches(t, r, s[:i]+"\xff"+s[i+1:], false)
			matches(t, r, s[:i]+"a"+s[i:], false)
		}
	}
	// as long as a pattern may be, and more
	holds(t, regex.Quote(strings.Repeat(".", 32)), 0, api.OK)
	holds(t, regex.Quote(strings.Repeat(".", 33)), 0, api.ErrLong)
	holds(t, regex.Quote(""), 0, api.ErrForm)
}
