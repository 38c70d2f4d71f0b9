package match_test

import (
	"regexp"
	"slices"
	"strings"
	"testing"

	"belfry/api"
	"belfry/label"
	"belfry/match"
)

// written: matchers with their texts.
var written = []struct {
	l []match.Matcher
	s string
}{
	{nil, `{}`},
	{[]match.Matcher{}, `{}`},
	{of("a", "=", "x"), `{a="x"}`},
	{of("a", "!=", "x"), `{a!="x"}`},
	{of("a", "=~", "x"), `{a=~"x"}`},
	{of("a", "!~", "x"), `{a!~"x"}`},
	{of("a", "=", ""), `{a=""}`},
	{of("a", "!=", ""), `{a!=""}`},
	{of("_", "=", " "), `{_=" "}`},
	{of("a", "!=", " ~ "), `{a!=" ~ "}`},
	{of("job", "=", "web", "zone", "!=", "eu 1"), `{job="web",zone!="eu 1"}`},
	{of("b", "=~", "x|y", "a", "!~", `\[`, "b", "!=", "", "c", "=", "}"), `{b=~"x|y",a!~"\\[",b!="",c="}"}`},
	{of("a", "=", "x", "a", "=", "x"), `{a="x",a="x"}`},
	{of("a", "=", `"`), `{a="\""}`},
	{of("a", "!=", `\`), `{a!="\\"}`},
	{of("a", "=~", `\"`), `{a=~"\\\""}`},
	{of("a", "!~", `\\`), `{a!~"\\\\"}`},
	{of("a", "=~", `"\\"`), `{a=~"\"\\\\\""}`},
	{of("a", "=", `x"y\z`), `{a="x\"y\\z"}`},
	{of("a", "!=", `\n`), `{a!="\\n"}`},
	{of("a", "=", "=", "b", "=", "!", "c", "=", "~", "d", "=", ",", "e", "=", "{", "f", "=", "}"), `{a="=",b="!",c="~",d=",",e="{",f="}"}`},
	{of("a", "=~", "=~", "b", "!~", "!~", "c", "!=", "!=", "d", "=~", "[{},]"), `{a=~"=~",b!~"!~",c!="!=",d=~"[{},]"}`},
	{of("a", "=", `x",b!~"y`), `{a="x\",b!~\"y"}`},
	{of("a", "=", `"}`), `{a="\"}"}`},
	{of("a", "=", "'"), `{a="'"}`},
	{of(longName, "!~", longValue), `{` + longName + `!~"` + longValue + `"}`},
	{of("a", "=", strings.Repeat(`"`, 64)), `{a="` + strings.Repeat(`\"`, 64) + `"}`},
	{of("a", "=~", strings.Repeat(`\`, 64)), `{a=~"` + strings.Repeat(`\\`, 64) + `"}`},
	{many(8), `{m00="v0",m01!="v1",m02=~"v2",m03!~"v3",m04="v4",m05!="v5",m06=~"v6",m07!~"v7"}`},
}

func TestText(t *testing.T) {
	for _, w := range written {
		room, untouched := guarded(t, w.l, spare)
		for range 2 {
			if got := match.Text(room); got != w.s {
				t.Errorf("%q: %s; want %s", w.l, got, w.s)
			}
		}
		untouched("Text")
	}
}

// TestTextAsOfLabels holds Text of matchers with `=` against label.Text.
func TestTextAsOfLabels(t *testing.T) {
	for _, s := range []label.Set{nil, {{Name: "a", Value: "x"}}, {{Name: "a", Value: `"\`}, {Name: "b", Value: `,}=`}}} {
		var l []match.Matcher
		for _, x := range s {
			l = append(l, of(x.Name, "=", x.Value)...)
		}
		if got, want := match.Text(l), label.Text(s); got != want {
			t.Errorf("%s; want %s", got, want)
		}
	}
}

// parses sees to it that Parse reads s as l, each time.
func parses(t *testing.T, s string, l []match.Matcher) {
	t.Helper()
	for range 2 {
		if got, e := match.Parse(s); e != api.OK || !slices.Equal(got, l) {
			t.Errorf("%s: %q, %v; want %q", s, got, e, l)
		}
	}
}

func TestParse(t *testing.T) {
	for _, w := range written {
		parses(t, w.s, w.l)
	}
}

// TestParseReadsWhatTextWrites goes through values of each byte and of each two of some.
func TestParseReadsWhatTextWrites(t *testing.T) {
	for c := ' '; c <= '~'; c++ {
		for _, d := range ` a"\{},=!~` {
			one, two := string(c)+string(d), string(d)+string(c)
			for _, op := range ops[:2] {
				l := of("a", op, one, "b", "!~", `\`+string(c)+`\`+string(d), "a", op, two, "c", "=~", `[\`+string(d)+`]`)
				parses(t, match.Text(l), l)
			}
		}
	}
	for n := range 9 {
		parses(t, match.Text(many(n)), many(n))
	}
}

// refused sees to it that Parse answers e to each of l, and no matcher beside it.
func refused(t *testing.T, e api.Errno, l ...string) {
	t.Helper()
	for _, s := range l {
		for range 2 {
			if got, err := match.Parse(s); len(got) != 0 || err != e {
				t.Errorf("%.99q: %q, %v; want none and %v", s, got, err, e)
			}
		}
	}
}

func TestParseRefusesWhatTextDoesNotWrite(t *testing.T) {
	// No braces, one of them, more of them, something about them.
	refused(t, api.ErrForm, "", "{", "}", "}{", "{{", "}}", "{}{}", "{}}", "{{}", "{{}}", " {}", "{} ", "{ }", "{}\n", "\n{}", "{}\x00", "x", "{}x", "x{}", "{},", "{,}", "[]", `""`, `{""}`,
		`a="x"`, `a="x"}`, `{a="x"`, `(a="x")`, ` {a="x"}`, `{a="x"} `, `{a="x"}}`, `{{a="x"}}`, `{a="x"}{`, `{a="x"}x`, `{a="x"},`, `{a="x"}{b="y"}`, `{a="x"},b="y"}`, "{a=\"x\"}\n", "{a=\"x\"}\x00", `{}a="x"}`, `{}="x"}`, `{}!="x"}`, `{}!~"x"}`, `{}"}`, `{a=~"x"}}`, `{a!="x"`, `a!~"x"}`)
	// No Op, another, one with something more.
	refused(t, api.ErrForm, `{a}`, `{a`, `{"x"}`, `{a"x"}`, `{a~"x"}`, `{a:"x"}`, `{a<"x"}`, `{!}`, `{=}`, `{a!}`, `{a!"x"}`, `{a! "x"}`, `{a!!"x"}`, `{a!!="x"}`, `{a!x="y"}`, `{a!b!="x"}`, `{a! ="x"}`, `{!"x"}`,
		`{a=="x"}`, `{a=!"x"}`, `{a=!="x"}`, `{a==~"x"}`, `{a=~~"x"}`, `{a=~="x"}`, `{a=~!"x"}`, `{a!=="x"}`, `{a!=~"x"}`, `{a!~~"x"}`, `{a!~="x"}`, `{a= "x"}`, `{a=~ "x"}`, `{a!= "x"}`, `{a!~ "x"}`, `{a= ~"x"}`, `{a!  ~"x"}`, `{a=b="x"}`, "{a=\n\"x\"}", "{a=\x00\"x\"}", `{a=a"x"}`)
	// No value, or one that does not begin or end.
	for _, op := range ops {
		refused(t, api.ErrForm, `{a`+op, `{a`+op+`}`, `{a`+op+`"`, `{a`+op+`"}`, `{a`+op+`"x`, `{a`+op+`"x}`, `{a`+op+`x}`, `{a`+op+`x"}`, `{a`+op+`x"y"}`, `{a`+op+`'x'}`, "{a"+op+"`x`}", `{a"`+op+`"x}`, `{`+op, `{`+op+`}`, `{`+op+`"}`)
	}
	// What is between the matchers.
	refused(t, api.ErrForm, `{a="x",}`, `{a="x",,}`, `{a="x"b="y"}`, `{a="x" }`, `{a="x" ,b="y"}`, `{a="x";b="y"}`, `{a="x""y"}`, `{a="x"y"}`, `{a="x"=}`, `{a="x"!}`, `{a="x",b}`, `{a="x",b=}`, `{a="x",b!}`, `{a="x",b!"y"}`, `{a="x",b~"y"}`, `{a="x",b=="y"}`, `{a="x",b="y`, `{a="x",b="y"`, `{a="x",b="y",`, `{a="x",`, `{a="x","y"}`, `{a="x"{}`, `{a=~"x",}`, `{a!="x",}`, `{a!~"x"b="y"}`)
	// What is behind a \.
	refused(t, api.ErrForm, `{a="\`, `{a="\"`, `{a="\"}`, `{a="\}`, `{a="\n"}`, `{a="\x"}`, `{a="\ "}`, `{a="\x22"}`, `{a="\u0041"}`, `{a="\'"}`, `{a="\/"}`, `{a="\,"}`, `{a=~"\["}`, `{a=~"\."}`, `{a!~"\d"}`, "{a=\"\\\n\"}", "{a=\"\\\xff\"}", `{a="x\"}`, `{a="x\\\"}`, `{a="\\\"`, `{a="\\\`, `{a="x",b="\"}`, `{a="x",b!="\t"}`, `{a=\"x\"}`, `{a=\"x"}`, `{a="x"\}`)
	refused(t, api.ErrForm, strings.Repeat("{", 1<<20), strings.Repeat(`a="x",`, 1<<18), `{a="`+strings.Repeat(`\`, 1<<20)+`"`, `{a="`+strings.Repeat(`x`, 1<<20), `{`+strings.Repeat(`!`, 1<<20), `{`+strings.Repeat(`a!="x",`, 1<<17))
}

func TestParseTellsWhatCheckSays(t *testing.T) {
	for _, op := range ops {
		for _, name := range []string{"", "A", "9", "a-b", " a", "a ", "a b", ",", ",a", "{", "{}", "{a", `"`, `"a"`, `\`, "~", "a~", "~a", "a\n", "\x00", "\xff", "\u00e9", "a}", "a,b", `a"x",b`, longName + "n", strings.Repeat("a", 1<<20)} {
			refused(t, api.ErrName, `{`+name+op+`"x"}`, `{a="x",`+name+op+`"x"}`, `{`+name+op+`""}`, `{`+name+op+"\"\n*\"}")
		}
		refused(t, api.ErrName, `{a="x",}`+op+`"y"}`, `{a="x",},b`+op+`"y"}`, `{a="x", b`+op+`"y"}`, `{a="x",,b`+op+`"y"}`)
		refused(t, api.ErrArg, "{a"+op+"\"\x1f\"}", "{a"+op+"\"\x7f\"}", "{a"+op+"\"\n\"}", "{a"+op+"\"x\ty\"}", "{a"+op+"\"\u00e9\"}", "{a"+op+"\"\xff\"}", "{a"+op+"\"\x00\"}", `{a`+op+`"`+longValue+`v"}`, `{a`+op+`"`+strings.Repeat(`\"`, 65)+`"}`, "{b=\"x\",a"+op+"\"\n\"}", "{a"+op+"\"\n\",A=\"x\"}", `{a`+op+`"`+strings.Repeat("x", 1<<20)+`"}`)
	}
	refused(t, api.ErrForm, `{a=~""}`, `{a!~""}`, `{a=~"*"}`, `{a!~"a**"}`, `{a=~"("}`, `{a=~"\\"}`, `{a!~"[b-a]"}`, `{a="x",b=~"|"}`, `{a=~"*",A="x"}`)
	refused(t, api.ErrLong, `{a=~"((((((((((a))))))))))"}`, `{a!~"(((((((((("}`, `{a="x",b!~"(((((((((("}`, `{a=~"((((((((((",A="x"}`)
	refused(t, api.ErrLong, match.Text(many(9)), match.Text(many(99)), match.Text(append(of("A", "=", "\n", "a", "=~", "*"), many(7)...)))
	refused(t, api.ErrName, match.Text(append(of("A", "=", "\n", "a", "=~", "*"), many(6)...)))
}

// TestParseTellsOfTheFormFirst: faults of Check, and behind them one of the form.
func TestParseTellsOfTheFormFirst(t *testing.T) {
	for _, s := range []string{`{="x"`, `{A!="x"`, "{a=\"\n\"", `{a=~"(((((((((("`, `{A=~"",A=""`, strings.TrimSuffix(match.Text(many(9)), "}")} {
		refused(t, api.ErrForm, s, s+"}}", s+"} ", s+`,}`, s+`,b}`, s+` }`, s+`,z="\z"}`, s+`,z=y}`, s+`,z!"y"}`, s+`,z=="y"}`, s+` ,z="y"}`)
	}
}

// other tells by the library's means what Parse should tell of s.
func other() func(s string) ([]match.Matcher, api.Errno) {
	behind := `(=|!=|=~|!~)"((?:[^"\\]|\\["\\])*)"`
	item := regexp.MustCompile(`(?s)([^=!]*)` + behind + `[,}]`)
	form := regexp.MustCompile(`(?s)^\{(?:(?:[^=!}][^=!]*)?` + behind + `(?:,[^=!]*` + behind + `)*)?\}$`)
	plain := strings.NewReplacer(`\"`, `"`, `\\`, `\`)
	return func(s string) ([]match.Matcher, api.Errno) {
		if !form.MatchString(s) {
			return nil, api.ErrForm
		}
		var l []match.Matcher
		for _, x := range item.FindAllStringSubmatch(s[1:], -1) {
			l = append(l, of(x[1], x[2], plain.Replace(x[3]))...)
		}
		if e := match.Check(l); e != api.OK {
			return nil, e
		}
		return l, api.OK
	}
}

// TestParseOfAll holds Parse against the library for all short texts of the bytes that matter.
func TestParseOfAll(t *testing.T) {
	want, count := other(), 0
	var look func(s string, more int)
	look = func(s string, more int) {
		l, e := want(s)
		got, err := match.Parse(s)
		if err != e || !slices.Equal(got, l) {
			t.Errorf("%s: %q, %v; want %q, %v", s, got, err, l, e)
		}
		if e == api.OK {
			count++
			if text := match.Text(got); text != s {
				t.Errorf("%s: its text is %s", s, text)
			}
		}
		if more == 0 {
			return
		}
		for _, c := range []string{"a", "=", "!", "~", `"`, `\`, ",", "{", "}"} {
			look(s+c, more-1)
		}
	}
	look("", 4)
	for _, front := range []string{`{`, `{a`, `{a="`, `{a!="a`, `{a=~"a",`, `{a!~"a",b`} {
		look(front, 5)
	}
	if count < 300 {
		t.Errorf("%d texts only", count)
	}
}

func TestParsedListsAreNew(t *testing.T) {
	text := match.Text(many(5))
	first, _ := match.Parse(text)
	second, _ := match.Parse(text)
	_ = append(first, spare)
	for i := range first[:cap(first)] {
		first[:cap(first)][i] = spare
	}
	if !slices.Equal(second, many(5)) {
		t.Errorf("another answer: %q", second)
	}
	parses(t, text, many(5))
}
