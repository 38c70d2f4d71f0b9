package regex_test

import (
	"strings"
	"testing"

	"belfry/api"
	"belfry/regex"
)

// The tests here and in regex_test.go are of P401, with P1 to P4, P6 and P7 as far as they bear on it.

// holds sees to it that Compile says of s what is wanted, and nothing beside an error but its place.
func holds(t *testing.T, s string, at int, want api.Errno) {
	t.Helper()
	r, got, e := regex.Compile(s)
	if got != at || e != want {
		t.Errorf("%.99q: %d, %v; want %d, %v", s, got, e, at, want)
	}
	if (r == nil) != (e != api.OK) {
		t.Errorf("%.99q: %v, and a pattern: %v", s, e, r != nil)
	}
	if r != nil && r.Text() != s {
		t.Errorf("%.99q: its text is %q", s, r.Text())
	}
}

// nested tells s in n `(`, each in those ahead.
func nested(n int, s string) string {
	return strings.Repeat("(", n) + s + strings.Repeat(")", n)
}

// filled tells s, again and again, up to 64 bytes, the last ones `a`.
func filled(s string) string {
	all := strings.Repeat(s, 64/len(s))
	return all + strings.Repeat("a", 64-len(all))
}

func TestCompile(t *testing.T) {
	for _, s := range []string{
		"a", ".", " ", "~", "^", "-", "$", "{", "}", ",", "\"", "/", "0", // one byte
		"ab", "a b", "a|b", "a|b|c", "ab|cd", "(a)", "((a))", "(a|b)", "(a|(b|c))d", "a(b)c|d",
		"a*", "a+", "a?", ".*", ".+", ".?", "(a)*", "(a|b)+", "(ab)?", "[a]*", "[^a]+", "[a-c]?", `\**`, `\++`, `\??`, "^*", "a*b+c?", "a*|b", "(a*)*", "(a?)+", "((a*)+)?", "a*(b)",
		`\a`, `\\`, `\.`, `\(`, `\)`, `\[`, `\]`, `\|`, `\*`, `\+`, `\?`, `\ `, `\~`, `\^`, `\-`, `a\b`, `\a\b`,
		"[a]", "[ab]", "[^a]", "[^ab]", "[a-b]", "[a-a]", "[ -~]", "[~-~]", "[ - ]", "[^ -~]", "[a-cx-z]", "[a-cb-d]", "[aa]", "[xa-cy]",
		`[\]]`, `[\\]`, `[\-]`, `[\^]`, `[^\^]`, `[^\]]`, `[a\^]`, `[\]\\\-\^]`, `[\--a]`, `[a-\z]`, `[+-\-]`, `[A-\]]`, `[A-\\]`, `[A-\^]`, `[\]-\^]`, `[\\-\]]`, `[\--\-]`, `[\a]`, `[\a-\c]`,
		"[(]", "[)]", "[[]", "[|]", "[*]", "[+]", "[?]", "[.]", "[()[|*+?.$]", "[*-+]", "[(-)]", "[^(]", "[a]b",
		nested(8, "a"), nested(9, "a"), nested(9, "a|b") + "*", nested(9, "a") + nested(9, "b"), nested(8, "(a)(b)"), `((((((((([(]\(\()))))))))`,
		filled("a"), filled("."), filled("(a)"), filled("[a]"), filled("[^a-z]"), filled(`\(`), filled("a*"), filled("(a|b)+"), nested(9, filled("ab")[:46]), "[" + strings.Repeat("(", 62) + "]",
	} {
		holds(t, s, 0, api.OK)
	}
}

func TestCompileRefuses(t *testing.T) {
	for _, x := range []struct {
		s  string
		at int
	}{
		// a row without a part
		{"", 0}, {"|", 0}, {"|a", 0}, {"a|", 2}, {"ab|", 3}, {"a||b", 2}, {"a|b|", 4}, {"a*|", 3}, {"||", 0},
		{"()", 1}, {"a()", 2}, {"()a", 1}, {"(())", 2}, {"(|a)", 1}, {"(a|)", 3}, {"(a||b)", 3}, {"(a)|", 4}, {"(a)|()", 5}, {"a|()", 3},
		// a `)` too many
		{")", 0}, {"a)", 1}, {"a*)", 2}, {")a", 0}, {"(a))", 3}, {"a)b", 1}, {"a|b)", 3}, {"(a)b)(", 4}, {"[a])", 3}, {`\()`, 2}, {nested(9, "a") + ")", 19},
		// a `(` that stays open
		{"(", 1}, {"(a", 2}, {"(a|b", 4}, {"((a)", 4}, {"(a*", 3}, {"a(", 2}, {"((", 2}, {`(\)`, 3}, {"([)]", 4}, {"(a|", 3}, {nested(9, "a")[:18], 18},
		// no atom ahead, or two behind one
		{"*", 0}, {"+", 0}, {"?", 0}, {"*a", 0}, {"+a", 0}, {"?a", 0}, {"(*a)", 1}, {"(+)", 1}, {"(?a)", 1}, {"(?:a)", 1}, {"a|*", 2}, {"a|+b", 2}, {"a|?", 2}, {"(a|?)", 3},
		{"a**", 2}, {"a*+", 2}, {"a*?", 2}, {"a+*", 2}, {"a++", 2}, {"a+?", 2}, {"a?*", 2}, {"a?+", 2}, {"a??", 2}, {"(a)**", 4}, {"[a]+?", 4}, {".?+", 2}, {`\**?`, 3}, {"((a*)*)**", 8}, {"a***", 2},
		// brackets
		{"[", 1}, {"[^", 2}, {"[a", 2}, {"[^a", 3}, {"[ab", 3}, {"[a-", 3}, {"[a-b", 4}, {"a[", 2}, {"([a", 3}, {"[[", 2}, {"[(", 2}, {`[\]`, 3}, {`[a\]`, 4}, {`[A-\]`, 5},
		{"[]", 1}, {"[^]", 2}, {"[]]", 1}, {"[]a]", 1}, {"[^]a]", 2}, {"a[]", 2}, {"([])", 2},
		{"]", 0}, {"a]", 1}, {"[a]]", 3}, {"(])", 1}, {"(a])", 2}, {"a|]", 2}, {"a*]", 2},
		{"[-]", 1}, {"[-a]", 1}, {"[^-]", 2}, {"[^-a]", 2}, {"[a-]", 3}, {"[^a-]", 4}, {"[a--]", 3}, {"[a-b-]", 4}, {"[a-b-c]", 4}, {"[--a]", 1}, {"[--]", 1}, {"[a-bc-]", 6},
		{"[^^]", 2}, {"[^^a]", 2}, {"[a^]", 2}, {"[a^b]", 2}, {"[^a^]", 3}, {"[a-b^]", 4}, {"[a-^]", 3}, {"[^-a]", 2}, {"[ -^]", 3}, {`[\^^]`, 3},
		// a range that falls
		{"[b-a]", 3}, {"[~- ]", 3}, {"[a-cz-y]", 6}, {"[^b-a]", 4}, {"x[b-a]", 4}, {"[z-aa-z]", 3}, {`[\b-a]`, 4}, {`[\]-\\]`, 4},
		{`[b-\a]`, 3}, {`[b-\-]`, 3}, {`[a-\^]`, 3}, {`[~-\]]`, 3}, {`[x-z~-\\]`, 6}, {`[\^-\]]`, 4},
		// more is wanted
		{`\`, 1}, {`a\`, 2}, {`\\\`, 3}, {`(\`, 2}, {`a|\`, 3}, {`[\`, 2}, {`[a\`, 3}, {`[a-\`, 4}, {`[b-\`, 4}, {`[^\`, 3}, {filled("a")[:63] + `\`, 64}, {filled("a")[:63] + "(", 64}, {filled("a")[:63] + "[", 64}, {filled("a")[:63] + "|", 64},
		// a byte that may not be
		{"\x00", 0}, {"\n", 0}, {"\x1f", 0}, {"\x7f", 0}, {"\x80", 0}, {"\xff", 0}, {"\u00e9", 0}, {"a\tb", 1}, {"ab\x00", 2}, {"a*\x7f", 2}, {"a|\x7f", 2}, {"(\x00)", 1}, {"(a\x00)", 2}, {"a\u00e9", 1},
		{"\\\t", 1}, {"\\\x00", 1}, {"a\\\xff", 2}, {"[\t]", 1}, {"[\x00]", 1}, {"[^\x7f]", 2}, {"[a\xff]", 2}, {"[a-\x7f]", 3}, {"[a-\x00]", 3}, {"[\x1f-a]", 1}, {"[a-b\u00e9]", 4}, {"[\\\t]", 2}, {"[a-\\\x7f]", 4}, {filled("a")[:63] + "\x00", 63},
		// of a byte that may not be no range is made, which thus does not fall
		{"[a-\\\x00]", 4}, {"[a-\\\x1f]", 4},
	} {
		holds(t, x.s, x.at, api.ErrForm)
	}
}

func TestCompileTooLong(t *testing.T) {
	for _, s := range []string{filled("a"), filled("(a)"), filled(`\*`), "[" + strings.Repeat("a", 62) + "]"} {
		holds(t, s, 0, api.OK)
		holds(t, s+"a", 0, api.ErrLong)
		holds(t, s+"*", 0, api.ErrLong)
	}
	// ahead of all else, wherever it is
	for _, s := range []string{"*", "|", ")", "(", "[", `\`, "\x00", "\xff", "()", "[b-a]", "(((((((((((", "a)"} {
		for _, long := range []string{s + strings.Repeat("a", 65), strings.Repeat("a", 64) + s, strings.Repeat(s, 65)} {
			holds(t, long, 0, api.ErrLong)
		}
	}
	holds(t, strings.Repeat("\u00e9", 33), 0, api.ErrLong)
	holds(t, strings.Repeat("\u00e9", 32), 0, api.ErrForm)
	holds(t, strings.Repeat("a", 1<<20), 0, api.ErrLong)
}

func TestCompileTooDeep(t *testing.T) {
	for _, x := range []struct {
		s  string
		at int
	}{
		{nested(10, "a"), 9}, {nested(11, "a"), 9}, {nested(32, ""), 9}, {strings.Repeat("(", 10), 9}, {strings.Repeat("(", 64), 9},
		{"x" + nested(10, "a"), 10}, {"a|" + nested(10, "a"), 11}, {"(a)" + nested(10, "a"), 12}, {nested(9, "a") + nested(10, "b"), 28}, {nested(9, "a(b)"), 10}, {nested(9, "a|(b)"), 11}, {nested(9, "a*(b)"), 11}, {nested(8, "(a)((b))"), 12},
	} {
		holds(t, x.s, x.at, api.ErrLong)
	}
	// what closes no more counts, nor what is no `(` but a byte
	for _, s := range []string{strings.Repeat("(a)", 21), strings.Repeat("((a))", 12), nested(9, "[(]"), nested(9, `\(`), "(((((((a))((b)))))((((((c))))))))"} {
		holds(t, s, 0, api.OK)
	}
}

// TestCompileTellsTheFirst holds the order of the errors: the first from the left, whichever it is.
func TestCompileTellsTheFirst(t *testing.T) {
	for _, x := range []struct {
		s  string
		at int
		e  api.Errno
	}{
		{"*)|", 0, api.ErrForm},
		{"a)*", 1, api.ErrForm},
		{"a**b**", 2, api.ErrForm},
		{"[b-a][d-c]", 3, api.ErrForm},
		{"[b-a", 3, api.ErrForm}, // ahead of what is wanted
		{`[b-\a`, 3, api.ErrForm},
		{"[b-a\x00]", 3, api.ErrForm},
		{"[\x00b-a]", 1, api.ErrForm},
		{"[a-b-\x00]", 4, api.ErrForm},
		{"(*", 1, api.ErrForm},
		{"(a**", 3, api.ErrForm},
		{"a\x00*", 1, api.ErrForm},
		{"*\x00", 0, api.ErrForm},
		{"\x00*", 0, api.ErrForm},
		{"()\x00", 1, api.ErrForm},
		{"(\x00", 1, api.ErrForm},
		{"*" + nested(10, "a"), 0, api.ErrForm},
		{nested(10, "a") + "*)", 9, api.ErrLong},
		{strings.Repeat("(", 9) + "*(", 9, api.ErrForm},
		{strings.Repeat("(", 10) + "*", 9, api.ErrLong},
		{strings.Repeat("(", 10) + "\x00", 9, api.ErrLong},
		{strings.Repeat("(", 9) + "\x00(", 9, api.ErrForm},
		{strings.Repeat("(", 9), 9, api.ErrForm},
		{strings.Repeat("(", 9) + "|(", 9, api.ErrForm},
		{"\x00" + nested(10, "a"), 0, api.ErrForm},
		{"a|" + nested(10, "a") + "|", 11, api.ErrLong},
	} {
		holds(t, x.s, x.at, x.e)
	}
}

// TestCompileOfEachByte holds each byte at each kind of place.
func TestCompileOfEachByte(t *testing.T) {
	for b := range 256 {
		c := string([]byte{byte(b)})
		may := 0x20 <= b && b <= 0x7E
		for _, x := range []struct {
			ahead, behind string
			ok            bool
		}{
			{"a", "b", may && !strings.Contains("()[]|\\", c)},
			{"a|", "b", may && !strings.Contains("()[]|*+?\\", c)},
			{"(", "b)", may && !strings.Contains("()[]|*+?\\", c)},
			{"a*", "b", may && !strings.Contains("()[]*+?|\\", c)},
			{`\`, "", may},
			{`a\`, "*", may},
			{"[", "a]", may && !strings.Contains("]-^\\", c)},
			{"[a", "]", may && !strings.Contains("]-^\\", c)},
			{"[^", "]", may && !strings.Contains("]-^\\", c)},
			{"[ -", "]", may && !strings.Contains("]-^\\", c)},
			{"[", "-~]", may && !strings.Contains("]-^\\", c)},
			{`[\`, "]", may},
			{`[a\`, "b]", may},
			{`[ -\`, "]", may},
			{`[\`, "-~]", may},
		} {
			switch {
			case x.ok:
				holds(t, x.ahead+c+x.behind, 0, api.OK)
			case !may:
				holds(t, x.ahead+c+x.behind, len(x.ahead), api.ErrForm)
			}
		}
	}
}

// fault tells by going from byte to byte, the open `(` counted, what Compile should tell of s.
func fault(s string) (int, api.Errno) {
	if len(s) > 64 {
		return 0, api.ErrLong
	}
	const (
		begin     = iota // of a row
		repeat           // behind an atom, `*` and the like may follow
		part             // behind one, an atom or the end must
		escape           // behind `\`
		bracket          // behind `[`
		set              // behind `[^`, or behind a whole range: a byte must follow, or `]` if there was one
		one              // behind a byte in brackets, a `-` may follow
		to               // behind that `-`
		oneEscape        // behind `\` in brackets
		toEscape         // behind `-\`
	)
	now, open, some, low, falls := begin, 0, false, byte(0), 0
	for i := range len(s) {
		c := s[i]
		if c < 0x20 || c > 0x7E {
			return i, api.ErrForm
		}
		switch now {
		case begin, repeat, part:
			switch {
			case c == '(' && open == 9:
				return i, api.ErrLong
			case c == '(':
				open++
				now = begin
			case c == '[':
				now, some = bracket, false
			case c == '\\':
				now = escape
			case c == '|' && now != begin:
				now = begin
			case c == ')' && now != begin && open > 0:
				open--
				now = repeat
			case (c == '*' || c == '+' || c == '?') && now == repeat:
				now = part
			case strings.IndexByte("()[]|*+?\\", c) >= 0:
				return i, api.ErrForm
			default:
				now = repeat
			}
		case escape:
			now = repeat
		case bracket, set, one:
			switch {
			case c == '^' && now == bracket:
				now = set
			case c == '-' && now == one:
				now, falls = to, i+1
			case c == ']' && some:
				now = repeat
			case c == ']' || c == '-' || c == '^':
				return i, api.ErrForm
			case c == '\\':
				now = oneEscape
			default:
				now, some, low = one, true, c
			}
		case oneEscape:
			now, some, low = one, true, c
		case to, toEscape:
			if now == to && c == '\\' {
				now = toEscape
				continue
			}
			if now == to && (c == ']' || c == '-' || c == '^') {
				return i, api.ErrForm
			}
			if c < low {
				return falls, api.ErrForm
			}
			now = set
		}
	}
	if open > 0 || now != repeat && now != part {
		return len(s), api.ErrForm
	}
	return 0, api.OK
}

// each goes through all texts of these bytes, up to so many, that behind ahead come.
func each(bytes string, most int, ahead string, visit func(s string)) {
	visit(ahead)
	if most == 0 {
		return
	}
	for i := range len(bytes) {
		each(bytes, most-1, ahead+bytes[i:i+1], visit)
	}
}

// TestCompileOfAll holds Compile against another way to read, for all that a few bytes make.
func TestCompileOfAll(t *testing.T) {
	for _, x := range []struct {
		ahead, bytes string
		most         int
	}{
		{"", "ab.()[]|*+?\\^-\x00\x7f", 4},
		{"", "a()|*", 7},
		{"[", "ab-^]\\(", 6},
		{strings.Repeat("(", 7), "a()|*[", 5},
		{filled("a")[:61], "a()[]|*\\\xff", 4},
	} {
		each(x.bytes, x.most, x.ahead, func(s string) {
			at, e := fault(s)
			holds(t, s, at, e)
		})
	}
}
