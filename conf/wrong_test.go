package conf_test

import (
	"math/big"
	"regexp"
	"slices"
	"strconv"
	"strings"
	"testing"

	"belfry/api"
	"belfry/conf"
	"belfry/label"
	"belfry/match"
	"belfry/span"
)

// refused sees to it that Parse answers e to s, the line, and nothing beside them.
func refused(t *testing.T, s string, line int, e api.Errno) {
	t.Helper()
	if c, at, err := parse(t, s); !alike(c, conf.Config{}) || at != line || err != e {
		t.Errorf("%.999q: %.999s, %d, %v; want none, %d, %v", s, shown(c), at, err, line, e)
	}
}

// Which words lines have behind the one ahead.
var kinds = map[string][]string{
	"set":      {"span", "span", "span", "number", "number", "number", "number"},
	"rule":     {"name", "number", "number", "number", "side", "ratio", "ratio", "span", "span", "span", "span", "matchers", "matchers", "labels"},
	"route":    {"deep", "matchers", "names", "span", "span", "span", "name"},
	"inhibit":  {"matchers", "matchers", "names"},
	"receiver": {"name", "span", "span", "number"},
}

// wrongNumbers: what is no decimal.
var wrongNumbers = []string{
	"", "-", "--", "01", "00", "007", "-0", "-01", "+1", "+0", "--1", "1-", "1-1", "x", "1x", "x1", "1.5", "1.", ".5", "1,5", "1e3", "0x1", "1_0", "\u0661", "\uff11", "1\t", "\v1", "1\x00", "\x001", "1\xff", "1/1", `"1"`, "{}", "{1}", "nan",
	"9223372036854775808", "-9223372036854775809", "18446744073709551615", "18446744073709551616", "18446744073709551617", "99999999999999999999", "-99999999999999999999", strings.Repeat("9", 1<<12), strings.Repeat("0", 1<<12), strings.Repeat("-", 1<<12),
}

// wrong: words of each kind that are none, with what is said of them. Of a name there is none.
var wrong = map[string]map[api.Errno][]string{
	"number": {api.ErrForm: wrongNumbers},
	"deep":   {api.ErrForm: slices.Concat(wrongNumbers, []string{"-1", "-2", "9", "10", "9223372036854775807", "-9223372036854775808", "4294967296", "4294967297"})},
	"span": {
		api.ErrForm: {"", "-", "00", "1", "60", "01s", "60s", "24h", "1s1m", "0s", "-1s", "+1s", "-0", "1S", "1x", "s", "1s\t", "1.5s", "{}", "1s,1s", strings.Repeat("9", 1<<12)},
		api.ErrArg:  {"50903d7h35m11s105ms", "50904d", "99999d", "9223372036854775808d", "18446744073709551617d", strings.Repeat("9", 1<<12) + "d"},
	},
	"side":  {api.ErrForm: {"", "-", "Above", "BELOW", "abov", "elow", "abovee", "bbelow", "over", "under", "true", "false", "0", "1", "above,below", "abovebelow", "above\t", "\x00below", "{}", "{above}", `"above"`}},
	"ratio": {api.ErrForm: wrongRatios()},
	"names": {api.ErrForm: {"", ",", ",,", ",a", "a,", "a,,b", ",a,b", "a,b,", ",-", "-,", "-,,-", strings.Repeat(",", 1<<12), strings.Repeat("a,", 1<<12)}},
	"matchers": {
		api.ErrForm: {"", "{}", "--", "x", "{", "}", "a", `""`, "[]", "{a}", "{}{}", "{}x", "-{}", "{}-", `{a="x"`, `a="x"}`, `{a="x"}x`, `x{a="x"}`, `-{a="x"}`, `{a="x"}-`, `{a="x",}`, `{a="x"}{b="y"}`, `{a="x"},{b="y"}`, `{{a="x"}}`, `{a="x"}}`, `(a="x")`, `{a=x}`, `{a='x'}`, `{a=="x"}`, `{a="\n"}`, `{a=~"("}`, `{a!~""}`, `{a="x", b}`, `{a = b}`, `{a="x" }`, `{ }`},
		api.ErrName: {`{="x"}`, `{A="x"}`, `{9="x"}`, `{ a="x"}`, `{a ="x"}`, `{a="x", b="y"}`, `{a-b=~"x"}`, `{a="x",B="x"}`, `{nnnnnnnnnnnnnnnnn="x"}`},
		api.ErrArg:  {"{a=\"\t\"}", "{a=\"\x7f\"}", "{a=\"\u00e9\"}", `{a!="` + longValue + `v"}`, "{a=\"x\",b!~\" \x00 \"}"},
		api.ErrLong: {match.Text(manyBy(9)), match.Text(manyBy(99)), `{a=~"(((((((((("}`},
	},
	"labels": {
		api.ErrForm:  {"", "{}", "--", "x", "{", "}", "a", `""`, "[]", "{a}", "{}{}", "{}x", "-{}", "{}-", `{a="x"`, `a="x"}`, `{a="x"}x`, `x{a="x"}`, `-{a="x"}`, `{a="x"}-`, `{a="x",}`, `{a="x"}{b="y"}`, `{a="x"},{b="y"}`, `{{a="x"}}`, `{a="x"}}`, `(a="x")`, `{a=x}`, `{a='x'}`, `{a=="x"}`, `{a=~"x"}`, `{a="\n"}`, `{a="x", b}`, `{a = b}`, `{a="x" }`, `{ }`},
		api.ErrName:  {`{="x"}`, `{A="x"}`, `{9="x"}`, `{a!="x"}`, `{ a="x"}`, `{a ="x"}`, `{a="x", b="y"}`, `{a="x",B="x"}`, `{nnnnnnnnnnnnnnnnn="x"}`},
		api.ErrTwice: {`{a="x",a="y"}`, `{b="x",a="y"}`, `{a="x",b="y",b="z w"}`},
		api.ErrArg:   {`{a=""}`, "{a=\"\t\"}", "{a=\"\x7f\"}", "{a=\"\u00e9\"}", `{a="` + longValue + `v"}`, `{a="x",b=""}`},
		api.ErrLong:  {label.Text(many(17)), label.Text(many(99))},
	},
}

// wrongRatios tells what is no ratio.
func wrongRatios() []string {
	l := []string{"", "-", "/", "//", "1", "1/", "/1", "1//1", "1/1/", "/1/1", "1/1/1", "1:1", "1,1", "1.1", `1\1`, "{}", "{1/1}"}
	for _, n := range wrongNumbers {
		if n != "1/1" {
			l = append(l, n+"/1", "1/"+n, n+"/"+n)
		}
	}
	return l
}

// linesOf tells the lines of s, each with its A.
func linesOf(s string) []string {
	l := strings.SplitAfter(s, "\n")
	return l[:len(l)-1]
}

// wordsOf tells the words of a line in which nothing between braces has a blank, but for its A.
func wordsOf(line string) []string { return strings.Split(strings.TrimSuffix(line, "\n"), " ") }

// with tells s with its line at that place made another one by change.
func with(s string, line int, change func(words []string) []string) string {
	l := linesOf(s)
	l[line] = strings.Join(change(wordsOf(l[line])), " ") + "\n"
	return strings.Join(l, "")
}

// withWord tells s with another word in that place of that line.
func withWord(s string, line, place int, word string) string {
	return with(s, line, func(words []string) []string {
		words[place] = word
		return words
	})
}

// TestParseRefusesWords puts each wrong word in each place that there is for one of its kind.
func TestParseRefusesWords(t *testing.T) {
	for i, line := range linesOf(madeText) {
		l := wordsOf(line)
		if len(l) != 1+len(kinds[l[0]]) {
			t.Fatalf("%q", line)
		}
		for k, kind := range kinds[l[0]] {
			for e, all := range wrong[kind] {
				for _, word := range all {
					refused(t, withWord(madeText, i, 1+k, word), i, e)
				}
			}
		}
	}
}

// TestParseRefusesOtherWordsAhead: none, and such as other lines have.
func TestParseRefusesOtherWordsAhead(t *testing.T) {
	for i, line := range linesOf(madeText) {
		for _, word := range []string{"", "-", "x", "Set", "SET", "sets", "se", "rules", "Rule", "rout", "routes", "inhibits", "receive", "receivers", "set\t", "\x00rule", "{", "{}", "{set}", `"set"`, "0", strings.Repeat("set", 1<<12)} {
			refused(t, withWord(madeText, i, 0, word), i, api.ErrForm)
		}
		for ahead := range kinds {
			if ahead != wordsOf(line)[0] {
				refused(t, withWord(madeText, i, 0, ahead), i, api.ErrForm)
			}
		}
	}
}

// TestParseRefusesOtherCountsOfWords: one missing, one too many, and blanks where none are.
func TestParseRefusesOtherCountsOfWords(t *testing.T) {
	for i, line := range linesOf(madeText) {
		n, ahead := len(wordsOf(line)), wordsOf(line)[0]
		for k := range n {
			refused(t, with(madeText, i, func(l []string) []string { return slices.Delete(l, k, k+1) }), i, api.ErrForm)
			refused(t, with(madeText, i, func(l []string) []string { return l[:k] }), i, api.ErrForm)
			for _, word := range []string{"", "-", "0", "1", "x", "{}", `{a="x"}`, " ", "set"} {
				refused(t, with(madeText, i, func(l []string) []string { return slices.Insert(l, k, word) }), i, api.ErrForm)
			}
			refused(t, with(madeText, i, func(l []string) []string { return slices.Insert(l, k+1, l[k]) }), i, api.ErrForm)
		}
		for _, tail := range []string{" ", "  ", " -", " 0", " x", " {}", ` {a="x"}`, "\r", "\t", "\x00"} {
			if (kinds[ahead][n-2] == "name" || kinds[ahead][n-2] == "names") && tail[0] != ' ' {
				continue // it is of the name
			}
			refused(t, with(madeText, i, func(l []string) []string {
				l[n-1] += tail
				return l
			}), i, api.ErrForm)
		}
		refused(t, with(madeText, i, func(l []string) []string { return l[:1] }), i, api.ErrForm)
		refused(t, with(madeText, i, func(l []string) []string { return slices.Repeat(l, 1<<8) }), i, api.ErrForm)
		refused(t, with(madeText, i, func(l []string) []string { return []string{strings.Join(l, "\t")} }), i, api.ErrForm)
		refused(t, with(madeText, i, func(l []string) []string { return append(l, strings.Repeat(" ", 1<<12)) }), i, api.ErrForm)
	}
}

// TestParseRefusesFrontsOfTexts: each front of a text, and where more is wanted.
func TestParseRefusesFrontsOfTexts(t *testing.T) {
	read := 0
	for n := range madeText {
		s := madeText[:n]
		whole := strings.Count(s, "\n")
		if whole > 3 && strings.HasSuffix(s, "\n") {
			read++
			if c, at, e := parse(t, s); e != api.OK || at != 0 || conf.Text(c) != s {
				t.Errorf("%q: %d, %v", s, at, e)
			}
			continue
		}
		refused(t, s, whole, api.ErrForm)
	}
	if read != 9 {
		t.Errorf("%d fronts were read", read)
	}
	const rule = "rule a 0 0 0 above 0/1 0/1 0 0 0 0 - - -\n"
	for _, x := range []struct {
		s    string
		line int
	}{
		{"", 0}, {setLine, 1}, {setLine + rule, 2}, {setLine + strings.Repeat(rule, 99), 100},
		{strings.TrimSuffix(setLine, "\n"), 0}, {setLine + strings.TrimSuffix(topLine, "\n"), 1}, {setLine + topLine + "inhibit - - -", 2}, {setLine + topLine + "receiver a 0 0 0", 2},
	} {
		refused(t, x.s, x.line, api.ErrForm)
	}
}

// TestParseRefusesOtherOrdersOfLines: one missing, one too many, one in another place.
func TestParseRefusesOtherOrdersOfLines(t *testing.T) {
	const (
		rule     = "rule a 0 0 0 above 0/1 0/1 0 0 0 0 - - -\n"
		kid      = "route 1 - - 0 0 0 a\n"
		inhibit  = "inhibit - - -\n"
		receiver = "receiver a 0 0 0\n"
		whole    = setLine + rule + topLine + kid + inhibit + receiver
	)
	for _, x := range []struct {
		s    string
		line int
	}{
		{"\n", 0}, {"\n\n", 0}, {" \n", 0}, {"\x00", 0}, {"x\n", 0}, {"\n" + whole, 0}, {whole + "\n", 6}, {whole + " ", 6}, {whole + "x", 6}, {whole + "\x00", 6}, {setLine + "\n" + topLine, 1}, {setLine + topLine + "\n" + kid, 2}, {"\r\n" + whole, 0}, {"\ufeff" + whole, 0},
		{topLine, 0}, {rule + topLine, 0}, {rule + setLine + topLine, 0}, {topLine + setLine, 0}, {inhibit, 0}, {receiver, 0}, {kid, 0}, {receiver + whole, 0},
		{setLine + setLine + topLine, 1}, {setLine + rule + setLine + topLine, 2}, {setLine + topLine + setLine, 2}, {setLine + topLine + kid + setLine, 3}, {whole + setLine, 6}, {whole + whole, 6},
		{setLine + topLine + rule, 2}, {setLine + rule + topLine + rule, 3}, {setLine + topLine + inhibit + rule, 3}, {whole + rule, 6},
		{setLine + inhibit, 1}, {setLine + receiver, 1}, {setLine + rule + inhibit, 2}, {setLine + rule + receiver, 2}, {setLine + inhibit + topLine, 1}, {setLine + receiver + topLine, 1},
		{setLine + topLine + inhibit + kid, 3}, {setLine + topLine + receiver + kid, 3}, {setLine + topLine + inhibit + topLine, 3}, {whole + kid, 6}, {whole + topLine, 6},
		{setLine + topLine + receiver + inhibit, 3}, {whole + inhibit, 6}, {setLine + topLine + inhibit + receiver + inhibit, 4},
	} {
		refused(t, x.s, x.line, api.ErrForm)
	}
	for _, s := range []string{whole, setLine + topLine + receiver + receiver, setLine + topLine + inhibit + inhibit, setLine + rule + rule + topLine + receiver, setLine + topLine + kid + kid + receiver} {
		if c, at, e := parse(t, s); e != api.OK || at != 0 || conf.Text(c) != s {
			t.Errorf("%q: %d, %v", s, at, e)
		}
	}
}

// TestParseRefusesPlacesOfRoutes: none of depth 0, a second one, and one deeper by two or more than the one ahead.
func TestParseRefusesPlacesOfRoutes(t *testing.T) {
	text := func(deep ...int) string {
		s := setLine
		for _, d := range deep {
			s += "route " + strconv.Itoa(d) + " - - 0 0 0 a\n"
		}
		return s
	}
	count := 0
	var look func(deep []int)
	look = func(deep []int) {
		line := 0 // where the first one lies that may not
		for i, d := range deep {
			if i == 0 && d != 0 || i > 0 && (d < 1 || d > deep[i-1]+1) {
				line = 1 + i
				break
			}
		}
		switch c, _, _ := parse(t, text(deep...)); {
		case len(deep) == 0:
			refused(t, text(), 1, api.ErrForm)
		case line > 0:
			refused(t, text(deep...), line, api.ErrForm)
			refused(t, text(deep...)+"receiver x\n", line, api.ErrForm)
		default:
			count++
			if want := (conf.Config{Root: tree(deep, "a")}); !alike(c, want) {
				t.Errorf("%v: %v; want %v", deep, c, want)
			}
		}
		if len(deep) < 5 {
			for d := -1; d <= 5; d++ {
				look(append(slices.Clone(deep), d))
			}
		}
	}
	look(nil)
	if want := len(shapes(5)); count != want {
		t.Errorf("%d trees; want %d", count, want)
	}
	// Of its depth is told ahead of what is behind it.
	for _, d := range []string{"0", "2", "-1", "01", "x"} {
		refused(t, text(0)+"route "+d+" {A=\"x\"} , 99999d 0 0 a\n", 2, api.ErrForm)
	}
	refused(t, text(0)+"route 1 {A=\"x\"} , 99999d 0 0 a\n", 2, api.ErrName)
	refused(t, setLine+"route 1 {A=\"x\"} - 0 0 0 a\n", 1, api.ErrForm)
}

// fault is a text made wrong in one place, and what is said of that.
type fault struct {
	line, place int // the place in its line: 0: ahead, 1: how many words, from 2 on: a word
	change      func(s string) string
	e           api.Errno
}

// faults tells some wrong words of each place of madeText, one for each error, the first places first.
func faults() []fault {
	var l []fault
	for i, line := range linesOf(madeText) {
		words := wordsOf(line)
		l = append(l,
			fault{i, 0, func(s string) string { return withWord(s, i, 0, "x") }, api.ErrForm},
			fault{i, 1, func(s string) string {
				return with(s, i, func(words []string) []string { return append(words, "x") })
			}, api.ErrForm},
			fault{i, 1, func(s string) string {
				return with(s, i, func(words []string) []string { return words[:len(words)-1] })
			}, api.ErrForm})
		for k, kind := range kinds[words[0]] {
			for e, all := range wrong[kind] {
				for _, word := range all {
					if !strings.Contains(word, " ") {
						l = append(l, fault{i, 2 + k, func(s string) string { return withWord(s, i, 1+k, word) }, e})
						break
					}
				}
			}
		}
	}
	return l
}

// TestParseTellsTheFirst puts a fault of each place beside one of each place behind it.
func TestParseTellsTheFirst(t *testing.T) {
	all := faults()
	count := 0
	for _, first := range all {
		for _, second := range all {
			if first.line > second.line || first.line == second.line && first.place >= second.place {
				continue
			}
			if first.line+1 < second.line && second.place > 3 {
				continue // as good as one that is looked at
			}
			s := first.change(second.change(madeText))
			if c, at, e := conf.Parse(s); at != first.line || e != first.e || !alike(c, conf.Config{}) {
				t.Errorf("%s: %d, %v; want %d, %v", s, at, e, first.line, first.e)
			}
			count++
		}
	}
	if count < 5000 {
		t.Errorf("%d pairs only", count)
	}
}

// TestParseRefusesLinesWithoutEnd: of a last line without its A nothing else is told.
func TestParseRefusesLinesWithoutEnd(t *testing.T) {
	for _, f := range faults() {
		s := f.change(madeText)
		end := 0
		for _, line := range linesOf(s)[:f.line+1] {
			end += len(line)
		}
		refused(t, s[:end-1], f.line, api.ErrForm)
		refused(t, s[:end], f.line, f.e)
		refused(t, strings.TrimSuffix(s, "\n"), f.line, map[bool]api.Errno{true: api.ErrForm, false: f.e}[f.line == strings.Count(s, "\n")-1])
	}
}

// TestParseFindsWords: what begins with a `{` goes to the `}` that is in no text, and from there to a blank.
func TestParseFindsWords(t *testing.T) {
	const front, back = setLine + "rule a 0 0 0 above 0/1 0/1 0 0 0 ", "\n" + topLine
	for s, e := range map[string]api.Errno{
		`0 {a="x y"} - -`: api.OK, `0 {a="} -"} - -`: api.OK, `0 {a="\"} - -"} {b="\\"} -`: api.OK, `0 - {a="{ "} {a="} ",b=" \" }"}`: api.OK, `0 {a=" "} {b=" "} {c=" "}`: api.OK,
		`0 {a="x"}x - -`: api.ErrForm, `0 {a="x"}- -`: api.ErrForm, `0 {a="x"} - - -`: api.ErrForm, `0 {a="x - -`: api.ErrForm, `0 {a="x" - -`: api.ErrForm, `0 {a="x\"} - -`: api.ErrForm, `0 {a="x\\" - -`: api.ErrForm, `0 - - {a="x y`: api.ErrForm, `0 - - {a="x y"`: api.ErrForm, `0 - - {a="x y" `: api.ErrForm, `0 - - {a="x y"} `: api.ErrForm,
		// A word that goes on to the end of the line, or behind its `}`, is one: how many there are is as it should be, and what is ahead of it comes first.
		`99999d - - {a="x y`: api.ErrArg, `99999d - - {a="x y"`: api.ErrArg, `99999d - - {a="x y"}z`: api.ErrArg, `99999d {a="x"}z - -`: api.ErrArg, `99999d {a="x"}{ - -`: api.ErrArg, `99999d - - {a="x y"} `: api.ErrForm, `99999d - - {a="x y"} z`: api.ErrForm, `99999d {a="x"}z  - -`: api.ErrForm, `99999d {a="x - -`: api.ErrForm, `99999d {a} b="x"} -`: api.ErrArg, `0 {a} b="x"} -`: api.ErrForm,
		`0 x{a=" "} - -`: api.ErrForm, `0 {a b="x"} - -`: api.ErrName, `0 - {A=" "} {B=" "}`: api.ErrName, `0 - - { a=" "}`: api.ErrName, `0 - - {a=" ",a=" "}`: api.ErrTwice,
	} {
		if e == api.OK {
			if c, at, err := parse(t, front+s+back); err != e || at != 0 || conf.Text(c) != front+s+back {
				t.Errorf("%s: %d, %v", s, at, err)
			}
			continue
		}
		refused(t, front+s+back, 1, e)
	}
	// A line ends at its A, wherever that stands.
	refused(t, front+"0 {a=\"x\ny\"} - -"+back, 1, api.ErrForm)
	refused(t, front+"0 - - {a=\"x\n\"}"+back, 1, api.ErrForm)
}

// other tells by the library's means, and those of the layers below, what Parse should tell of s.
func other() func(s string) (conf.Config, int, api.Errno) {
	order := regexp.MustCompile(`^set(,rule)*((,route)+(,inhibit)*(,receiver)*)?$`)
	word := regexp.MustCompile(`^(?s:(?:\{(?:[^"}]|"(?:[^"\\]|\\.)*")*\}[^ ]*)|\{.*|[^ ]*)(?: |$)`)
	return func(s string) (conf.Config, int, api.Errno) {
		var c conf.Config
		var aheads []string
		var deep []int
		var routes []conf.Route
		lines := strings.SplitAfter(s, "\n")
		if lines[len(lines)-1] == "" {
			lines = lines[:len(lines)-1]
		}
		for at, line := range lines {
			line, ok := strings.CutSuffix(line, "\n")
			var words []string
			for rest := line + " "; rest != ""; {
				w := word.FindString(rest)
				words, rest = append(words, strings.TrimSuffix(w, " ")), rest[len(w):]
			}
			aheads = append(aheads, words[0])
			if !ok || !order.MatchString(strings.Join(aheads, ",")) || len(words) != 1+len(kinds[words[0]]) {
				return conf.Config{}, at, api.ErrForm
			}
			read := otherWords{words: words[1:]}
			switch words[0] {
			case "set":
				c.Grid, c.Late, c.Retain = read.span(), read.span(), read.span()
				c.Idle, c.Series, c.Queue, c.Outbox = int(read.number()), int(read.number()), int(read.number()), int(read.number())
			case "rule":
				c.Rules = append(c.Rules, conf.Rule{
					Name: read.next(), Kind: int(read.number()), Agg: int(read.number()), Q: int(read.number()), Below: read.side(), Raise: read.ratio(), Clear: read.ratio(),
					Window: read.span(), Short: read.span(), For: read.span(), Keep: read.span(), Match: read.matchers(), Bad: read.matchers(), Labels: read.labels(),
				})
			case "route":
				d := read.number()
				if len(deep) == 0 && d != 0 || len(deep) > 0 && (d < 1 || d > int64(deep[len(deep)-1]+1)) {
					read.fail(api.ErrForm)
				}
				deep = append(deep, int(d))
				routes = append(routes, conf.Route{Match: read.matchers(), By: read.names(), Wait: read.span(), Interval: read.span(), Repeat: read.span(), To: read.next()})
			case "inhibit":
				c.Inhibits = append(c.Inhibits, conf.Inhibit{Source: read.matchers(), Target: read.matchers(), Equal: read.names()})
			case "receiver":
				c.Receivers = append(c.Receivers, conf.Receiver{Name: read.next(), Base: read.span(), Cap: read.span(), Tries: int(read.number())})
			}
			if read.e != api.OK {
				return conf.Config{}, at, read.e
			}
		}
		if len(routes) == 0 {
			return conf.Config{}, len(lines), api.ErrForm
		}
		c.Root = grown(deep, routes)
		return c, 0, api.OK
	}
}

// grown tells the first route with all below it, which lie so deep.
func grown(deep []int, routes []conf.Route) conf.Route {
	root := routes[0]
	for i := 1; i < len(deep); i++ {
		if deep[i] == deep[0]+1 {
			end := i + 1
			for end < len(deep) && deep[end] > deep[i] {
				end++
			}
			root.Kids = append(root.Kids, grown(deep[i:end], routes[i:end]))
		}
	}
	return root
}

// otherWords reads words from the left; e is the first error.
type otherWords struct {
	words []string
	e     api.Errno
}

func (o *otherWords) fail(e api.Errno) {
	if o.e == api.OK {
		o.e = e
	}
}

func (o *otherWords) next() string {
	w := o.words[0]
	o.words = o.words[1:]
	return w
}

var decimal = regexp.MustCompile(`^(0|-?[1-9][0-9]*)$`)

func (o *otherWords) numberOf(w string) int64 {
	n, ok := new(big.Int).SetString(w, 10)
	if !decimal.MatchString(w) || !ok || !n.IsInt64() {
		o.fail(api.ErrForm)
		return 0
	}
	return n.Int64()
}

func (o *otherWords) number() int64 { return o.numberOf(o.next()) }

func (o *otherWords) span() int64 {
	d, e := span.Parse(o.next())
	o.fail(e)
	return d
}

func (o *otherWords) side() bool {
	w := o.next()
	if w != "above" && w != "below" {
		o.fail(api.ErrForm)
	}
	return w == "below"
}

func (o *otherWords) ratio() conf.Ratio {
	l := strings.Split(o.next(), "/")
	if len(l) != 2 {
		o.fail(api.ErrForm)
		return conf.Ratio{}
	}
	return conf.Ratio{Num: o.numberOf(l[0]), Den: o.numberOf(l[1])}
}

func (o *otherWords) names() []string {
	w := o.next()
	if w == "-" {
		return nil
	}
	l := strings.Split(w, ",")
	if slices.Contains(l, "") {
		o.fail(api.ErrForm)
	}
	return l
}

// listOf tells the list that parse reads as the next word of o.
func listOf[L ~[]T, T any](o *otherWords, parse func(s string) (L, api.Errno)) L {
	w := o.next()
	if w == "-" {
		return nil
	}
	l, e := parse(w)
	if w == "{}" {
		e = api.ErrForm
	}
	o.fail(e)
	return l
}

func (o *otherWords) matchers() []match.Matcher { return listOf(o, match.Parse) }
func (o *otherWords) labels() label.Set         { return listOf(o, label.Parse) }

// TestParseAsTheOther holds Parse against the other for texts that are a little off a well written one: a byte, a word or a line cut, doubled, put in or changed.
func TestParseAsTheOther(t *testing.T) {
	const base = `set 50903d 0 9999d 3 -7 0 1
rule a 1 5 0 above 3/2 -1/1 1m 0 30s 0 {a="x y",b=~"p|q"} - {c="{}"}
rule b 3 1 0 below 0/7 0/1 1h 5m 1d 2h3ms {a!="}"} {b!~"5.."} {a="1",aa="\"\\",b="2"}
route 0 - a,b 30s 5m 4h r
route 1 {c="x"} - 0 1m 1h s
route 2 - a 0 1ms 1d s
route 1 {c!~"y"} - 1s 1m 1h r
inhibit {a="x"} {b=" y"} c,d
receiver r 1s 1m 5
receiver s 0 0 1
`
	want := other()
	count, errs := 0, map[api.Errno]int{}
	look := func(s string) {
		t.Helper()
		c, line, e := want(s)
		got, at, err := conf.Parse(s)
		if at != line || err != e || !alike(got, c) {
			t.Errorf("%q: %.999s, %d, %v; want %.999s, %d, %v", s, shown(got), at, err, shown(c), line, e)
		}
		count++
		if errs[e]++; e == api.OK && conf.Text(got) != s {
			t.Errorf("%q: its text is %q", s, conf.Text(got))
		}
	}
	look(base)
	for i := range len(base) + 1 {
		if i < len(base) {
			look(base[:i] + base[i+1:])
			look(base[:i] + base[i:i+1] + base[i:])
		}
		for _, c := range []string{" ", "\n", "0", "1", "-", "a", "A", "=", "~", `"`, `\`, ",", "{", "}", "/"} {
			look(base[:i] + c + base[i:])
			if i < len(base) {
				look(base[:i] + c + base[i+1:])
			}
		}
	}
	lines := linesOf(base)
	for i := range lines {
		for k := range lines {
			moved := slices.Delete(slices.Clone(lines), i, i+1)
			look(strings.Join(slices.Insert(moved, min(k, len(moved)), lines[i]), ""))
			look(strings.Join(slices.Insert(slices.Clone(lines), k, lines[i]), ""))
			swapped := slices.Clone(lines)
			swapped[i], swapped[k] = swapped[k], swapped[i]
			look(strings.Join(swapped, ""))
			look(strings.Join(slices.Delete(slices.Clone(lines), min(i, k), max(i, k)), ""))
		}
		words := strings.Split(lines[i], " ")
		for k := range words {
			for m := range words {
				swapped := slices.Clone(words)
				swapped[k], swapped[m] = swapped[m], swapped[k]
				s := slices.Clone(lines)
				s[i] = strings.Join(swapped, " ")
				look(strings.Join(s, ""))
			}
		}
	}
	if count < 12000 || errs[api.OK] < 1000 || errs[api.ErrForm] < 5000 || errs[api.ErrName] < 100 || errs[api.ErrTwice] < 5 || errs[api.ErrArg] < 5 {
		t.Errorf("%d texts only: %v", count, errs)
	}
}

// TestParseEnds: texts as no one writes them, long ones.
func TestParseEnds(t *testing.T) {
	const rule = setLine + "rule a 0 0 0 above 0/1 0/1 0 0 0 0 "
	for s, line := range map[string]int{
		strings.Repeat(" ", 1<<22): 0, strings.Repeat("\n", 1<<22): 0, strings.Repeat("{", 1<<22): 0, strings.Repeat("set ", 1<<20): 0, strings.Repeat("set\n", 1<<20): 0,
		"set" + strings.Repeat(" 0", 1<<21) + "\n": 0, "set " + strings.Repeat("0", 1<<22) + " 0 0 0 0 0 0\n": 0, strings.Repeat(setLine, 1<<16): 1,
		rule + strings.Repeat("{", 1<<22) + " - -\n": 1, rule + "{" + strings.Repeat(`"`, 1<<22) + "} - -\n": 1, rule + "{" + strings.Repeat(`\`, 1<<22) + "} - -\n": 1, rule + strings.Repeat("{} ", 1<<20) + "\n": 1, rule + "- - {a=\"" + strings.Repeat(`\`, 1<<22) + "\n": 1,
		setLine + "route 0 - " + strings.Repeat(",", 1<<22) + " 0 0 0 a\n": 1, setLine + "route 0 - " + strings.Repeat("a,", 1<<21) + " 0 0 0 a\n": 1, setLine + "route " + strings.Repeat("0", 1<<22) + " - - 0 0 0 a\n": 1,
	} {
		refused(t, s, line, api.ErrForm)
	}
}
