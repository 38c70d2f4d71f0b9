package label_test

import (
	"fmt"
	"hash/fnv"
	"math"
	"regexp"
	"slices"
	"strings"
	"testing"

	"belfry/api"
	"belfry/label"
)

// written: sets with their texts.
var written = []struct {
	s label.Set
	x string
}{
	{nil, `{}`},
	{label.Set{}, `{}`},
	{of("a", "x"), `{a="x"}`},
	{of("_", " "), `{_=" "}`},
	{of("a", "~"), `{a="~"}`},
	{of("a", " ~ "), `{a=" ~ "}`},
	{of("job", "web", "zone", "eu 1"), `{job="web",zone="eu 1"}`},
	{of("a", "1", "b2", "2", "c_", "3"), `{a="1",b2="2",c_="3"}`},
	{of("a", `"`), `{a="\""}`},
	{of("a", `\`), `{a="\\"}`},
	{of("a", `"x`), `{a="\"x"}`},
	{of("a", `x"`), `{a="x\""}`},
	{of("a", `\x`), `{a="\\x"}`},
	{of("a", `x\`), `{a="x\\"}`},
	{of("a", `x"y\z`), `{a="x\"y\\z"}`},
	{of("a", `"\`), `{a="\"\\"}`},
	{of("a", `\"`), `{a="\\\""}`},
	{of("a", `\\`, "b", `""`), `{a="\\\\",b="\"\""}`},
	{of("a", `\n`), `{a="\\n"}`},
	{of("a", `{}`, "b", `,`, "c", `=`), `{a="{}",b=",",c="="}`},
	{of("a", `x",b="y`), `{a="x\",b=\"y"}`},
	{of("a", `"}`), `{a="\"}"}`},
	{of("a", `'`), `{a="'"}`},
	{of(longName, longValue), `{` + longName + `="` + longValue + `"}`},
	{of("a", strings.Repeat(`"`, 64)), `{a="` + strings.Repeat(`\"`, 64) + `"}`},
	{of("a", strings.Repeat(`\`, 64)), `{a="` + strings.Repeat(`\\`, 64) + `"}`},
	{many(3), `{l00="v0",l01="v1",l02="v2"}`},
	{many(16), `{l00="v0",l01="v1",l02="v2",l03="v3",l04="v4",l05="v5",l06="v6",l07="v7",l08="v8",l09="v9",l10="v10",l11="v11",l12="v12",l13="v13",l14="v14",l15="v15"}`},
}

func TestText(t *testing.T) {
	for _, w := range written {
		room, untouched := guarded(t, w.s)
		if got := label.Text(room); got != w.x {
			t.Errorf("%q: %s; want %s", w.s, got, w.x)
		}
		untouched("Text")
	}
}

func TestParse(t *testing.T) {
	for _, w := range written {
		got, e := label.Parse(w.x)
		if e != api.OK {
			t.Errorf("%s: %v", w.x, e)
		}
		same(t, w.x, got, w.s)
	}
}

// TestParseReadsWhatTextWrites goes through values of each byte and of each two of some.
func TestParseReadsWhatTextWrites(t *testing.T) {
	back := func(s label.Set) {
		t.Helper()
		got, e := label.Parse(label.Text(s))
		if e != api.OK {
			t.Errorf("%q: %v", s, e)
		}
		same(t, label.Text(s), got, s)
	}
	for c := ' '; c <= '~'; c++ {
		for _, d := range ` a"\{},=~` {
			back(of("a", string(c)+string(d), "b", string(d)+string(c), "c", string(c)))
		}
	}
	for n := range 17 {
		back(many(n))
	}
}

// refused sees to it that Parse answers e to each of l, and no label beside it.
func refused(t *testing.T, e api.Errno, l ...string) {
	t.Helper()
	for _, s := range l {
		if got, err := label.Parse(s); len(got) != 0 || err != e {
			t.Errorf("%.99q: %q, %v; want none and %v", s, got, err, e)
		}
	}
}

func TestParseRefusesWhatTextDoesNotWrite(t *testing.T) {
	// No braces, one of them, more of them, something about them.
	refused(t, api.ErrForm, "", "{", "}", "}{", "{{", "}}", "{}{}", "{}}", "{{}", "{{}}", " {}", "{} ", "{ }", "{}\n", "\n{}", "{}\x00", "\x00{}", "x", "{}x", "x{}", "{},", "{,}", "{}{", "[]", "()", "\"\"", "{\"\"}",
		`a="x"`, `a="x"}`, `{a="x"`, `(a="x")`, ` {a="x"}`, `{a="x"} `, `{a="x"}}`, `{a="x"}{`, `{a="x"}x`, `{a="x"},`, `{a="x"}{b="y"}`, `{a="x"},b="y"}`, "{a=\"x\"}\n", "{a=\"x\"}\x00", `{}a="x"}`, `{}="x"}`, `{}"}`)
	// No value, or one that does not begin or end.
	refused(t, api.ErrForm, `{a}`, `{a`, `{a=`, `{a=}`, `{a="`, `{a="}`, `{a="x`, `{a="x}`, `{a=x}`, `{a=x"}`, `{a=x"y"}`, `{a= "x"}`, `{a=="x"}`, `{a=b="x"}`, `{a:"x"}`, `{a"x"}`, `{a"="x}`, `{a='x'}`, "{a=`x`}", `{"a"}`, `{"a":"x"}`, `{a!"x"}`, `{="}`, `{=`, `{=}`)
	// What is between the labels.
	refused(t, api.ErrForm, `{a="x",}`, `{a="x",,}`, `{a="x"b="y"}`, `{a="x" }`, `{a="x" ,b="y"}`, `{a="x";b="y"}`, `{a="x""y"}`, `{a="x"y"}`, `{a="x"=}`, `{a="x",b}`, `{a="x",b=}`, `{a="x",b="y`, `{a="x",b="y"`, `{a="x",b="y",`, `{a="x",`, `{a="x","y"}`, `{a="x"{}`)
	// What is behind a \.
	refused(t, api.ErrForm, `{a="\`, `{a="\"`, `{a="\"}`, `{a="\}`, `{a="\n"}`, `{a="\x"}`, `{a="\ "}`, `{a="\x22"}`, `{a="\u0041"}`, `{a="\0"}`, `{a="\'"}`, `{a="\/"}`, `{a="\,"}`, "{a=\"\\\n\"}", "{a=\"\\\xff\"}", `{a="x\"}`, `{a="x\\\"}`, `{a="\\\"`, `{a="\\\`, `{a="x",b="\"}`, `{a="x",b="\t"}`, `{a=\"x\"}`, `{a=\"x"}`, `{a="x"\}`)
	refused(t, api.ErrForm, strings.Repeat("{", 1<<20), strings.Repeat(`a="x",`, 1<<18), `{a="`+strings.Repeat(`\`, 1<<20)+`"`, `{a="`+strings.Repeat(`x`, 1<<20))
}

func TestParseTellsWhatCheckSays(t *testing.T) {
	refused(t, api.ErrName, `{="x"}`, `{A="x"}`, `{9="x"}`, `{a-b="x"}`, `{ a="x"}`, `{a ="x"}`, `{a b="x"}`, `{,="x"}`, `{,a="x"}`, `{{="x"}`, `{{}="x"}`, `{{a="x"}`, `{"="x"}`, `{"a"="x"}`, `{\="x"}`, `{a!="x"}`, `{a~="x"}`, "{a\n=\"x\"}", "{\x00=\"x\"}", "{\xff=\"x\"}",
		"{\u00e9=\"x\"}", `{a}="x"}`, `{a,b="x"}`, `{`+longName+`n="x"}`, `{a="x",="y"}`, `{a="x",}="y"}`, `{a="x",},b="y"}`, `{a="x", b="y"}`, `{a="x",,b="y"}`, `{a="x",B="y"}`, `{a="x",{}="y"}`, `{b="x",A=""}`, `{`+strings.Repeat("a", 1<<20)+`="x"}`)
	refused(t, api.ErrTwice, `{a="x",a="x"}`, `{a="x",a="y"}`, `{b="x",a="y"}`, `{aa="x",a="y"}`, `{a="x",c="y",b="z"}`, `{a="x",a=""}`, `{b="x",a="y",A=""}`)
	refused(t, api.ErrArg, `{a=""}`, "{a=\"\x1f\"}", "{a=\"\x7f\"}", "{a=\"\n\"}", "{a=\"x\ty\"}", "{a=\"\u00e9\"}", "{a=\"\xff\"}", "{a=\"\x00\"}", `{a="`+longValue+`v"}`, `{a="`+strings.Repeat(`\"`, 65)+`"}`, `{a="x",b=""}`, `{a="",a="x"}`, `{a="",A="x"}`, `{a="`+strings.Repeat("x", 1<<20)+`"}`)
	refused(t, api.ErrLong, label.Text(many(17)), label.Text(many(99)), label.Text(make(label.Set, 17)), label.Text(append(of("b", "", "a", "", "A", ""), many(14)...)))
	refused(t, api.ErrName, label.Text(make(label.Set, 16)))
}

// TestParseTellsOfTheFormFirst: faults of Check, and behind them one of the form.
func TestParseTellsOfTheFormFirst(t *testing.T) {
	for _, s := range []string{`{="x"`, `{A="x"`, `{a=""`, `{a="x",a="x"`, `{b="x",a="y"`, "{a=\"\n\"", `{A="",A=""`, strings.TrimSuffix(label.Text(many(17)), "}"), strings.TrimSuffix(label.Text(make(label.Set, 17)), "}")} {
		refused(t, api.ErrForm, s, s+"}}", s+"} ", s+`,}`, s+`,b}`, s+`,z="y`, s+`,z="\z"}`, s+`,z=y}`, s+` ,z="y"}`)
	}
}

// TestParseOfAll holds Parse against a pattern of the library for all short texts of the bytes that matter.
func TestParseOfAll(t *testing.T) {
	value := `="(?:[^"\\]|\\["\\])*"`
	form := regexp.MustCompile(`(?s)^\{(?:(?:[^=}][^=]*)?` + value + `(?:,[^=]*` + value + `)*)?\}$`)
	var look func(s string, more int)
	look = func(s string, more int) {
		got, e := label.Parse(s)
		if (e != api.ErrForm) != form.MatchString(s) {
			t.Errorf("%s: %v", s, e)
		}
		if e == api.OK && label.Text(got) != s {
			t.Errorf("%s: read as %q", s, got)
		}
		if e == api.OK && label.Check(got) != api.OK || e != api.OK && len(got) != 0 {
			t.Errorf("%s: %q beside %v", s, got, e)
		}
		if more == 0 {
			return
		}
		for _, c := range []string{"a", "=", `"`, `\`, ",", "{", "}"} {
			look(s+c, more-1)
		}
	}
	look("", 3)
	for _, front := range []string{`{`, `{a="`, `{a="a`, `{a="a",`, `{a="a",b="`} {
		look(front, 5)
	}
}

func TestParsedSetsAreNew(t *testing.T) {
	text := label.Text(many(5))
	first, _ := label.Parse(text)
	second, _ := label.Parse(text)
	_ = append(first, label.Label{Name: "behind", Value: "it"})
	for i := range first[:cap(first)] {
		first[:cap(first)][i] = label.Label{Name: "over", Value: "written"}
	}
	same(t, "another answer", second, many(5))
	third, _ := label.Parse(text)
	same(t, "a later answer", third, many(5))
}

func TestHash(t *testing.T) {
	for _, w := range written {
		h := fnv.New64a()
		h.Write([]byte(w.x))
		room, untouched := guarded(t, w.s)
		if got := label.Hash(room); got != h.Sum64() {
			t.Errorf("%s: %x; want %x", w.x, got, h.Sum64())
		}
		untouched("Hash")
	}
	// By the document's own words, of no label.
	want := uint64(0xCBF29CE484222325)
	for _, c := range []byte("{}") {
		want = (want ^ uint64(c)) * 0x100000001B3
	}
	if got := label.Hash(nil); got != want || label.Hash(label.Set{}) != want {
		t.Errorf("of no label: %x; want %x", got, want)
	}
}

func TestShard(t *testing.T) {
	for _, w := range written {
		h := fnv.New64a()
		h.Write([]byte(w.x))
		room, untouched := guarded(t, w.s)
		for _, n := range []int{1, 2, 3, 4, 5, 6, 7, 8, 9, 255, 256, 1 << 20, math.MaxInt32, math.MaxInt64 - 1, math.MaxInt64} {
			want := int(h.Sum64() % uint64(n))
			if got := label.Shard(room, n); got != want {
				t.Errorf("%s of %d: %d; want %d", w.x, n, got, want)
			}
		}
		if got := label.Shard(room, 1); got != 0 {
			t.Errorf("%s of one: %d", w.x, got)
		}
		for _, n := range []int{0, -1, -2, -8, math.MinInt32, math.MinInt64, math.MinInt64 + 1} {
			if got := label.Shard(room, n); got != 0 {
				t.Errorf("%s of %d: %d; want 0", w.x, n, got)
			}
		}
		untouched("Shard")
	}
}

func TestShardsAllGetSome(t *testing.T) {
	var got [8]int
	for i := range 800 {
		got[label.Shard(of("host", fmt.Sprintf("h%d", i)), 8)]++
	}
	for i, n := range got {
		if n == 0 {
			t.Errorf("nothing falls to shard %d: %v", i, got)
		}
	}
}

func TestCompare(t *testing.T) {
	rising := []label.Set{
		nil, many(1), many(2), many(3), many(15), many(16),
		of("_", "x"), of("a", "!"), of("a", "0"), of("a", `"`), of("a", `\`), of("a", "x"), of("a", "x "), of("a", "xx"), of("a", "y"),
		of("a", "x", "b", "y"), of("a", "x", "b", "y", "c", "z"), of("a", "y", "b", "0"), of("aa", "a"), of("b", "a"), of("b", "a", "c", "a"), of("z", "a"),
	}
	slices.SortFunc(rising, func(a, b label.Set) int { return strings.Compare(plain(a), plain(b)) })
	for i, a := range rising {
		for k, b := range rising {
			want := 0
			if i < k {
				want = -1
			} else if i > k {
				want = 1
			}
			left, leftUntouched := guarded(t, a)
			right, rightUntouched := guarded(t, b)
			if got := label.Compare(left, right); got != want {
				t.Errorf("%s to %s: %d; want %d", plain(a), plain(b), got, want)
			}
			leftUntouched("Compare")
			rightUntouched("Compare")
		}
	}
}

// plain tells the text of s by the library's means.
func plain(s label.Set) string {
	var words []string
	for _, l := range s {
		words = append(words, l.Name+`="`+strings.ReplaceAll(strings.ReplaceAll(l.Value, `\`, `\\`), `"`, `\"`)+`"`)
	}
	return "{" + strings.Join(words, ",") + "}"
}

func TestCompareAtTheEdges(t *testing.T) {
	for _, x := range []struct {
		a, b label.Set
		want int
	}{
		{nil, nil, 0},
		{nil, label.Set{}, 0},
		{of("a", "x"), of("a", "x"), 0},
		{of("a", "x"), nil, -1}, // } is above a
		{of("z", "x"), nil, -1},
		{of("a", "x"), of("a", "x", "b", "y"), 1}, // } is above ,
		{nil, of("}", "x"), -1},                   // {} is the front of {}="x"}, as only of what Check does not take
		{many(15), many(16), 1},
		{of("a", "x"), of("a", "xx"), -1}, // " is below x
		{of("a", "x"), of("a", "x!"), 1},  // " is above !
		{of("a", "x"), of("a", "x "), 1},  // " is above the blank
		{of("a", "x"), of("aa", "x"), -1}, // = is below a
		{of("a", "x"), of("a9", "x"), 1},  // = is above 9
		{of("a", `"`), of("a", "#"), 1},   // \ is above #
		{of("a", `"`), of("a", "]"), -1},  // \ is below ]
		{of("a", `"`), of("a", `\`), -1},  // \" to \\
		{of("a", "x"), of("b", "a"), -1},  // names ahead of values
		{of("a", "A"), of("a", "a"), -1},  // by bytes
		{of("a", "10"), of("a", "9"), -1}, // not by numbers
		{of("a", "x", "b", "y"), of("a", "x", "b", "z"), -1},
	} {
		if got := label.Compare(x.a, x.b); got != x.want {
			t.Errorf("%s to %s: %d; want %d", plain(x.a), plain(x.b), got, x.want)
		}
		if got := label.Compare(x.b, x.a); got != -x.want {
			t.Errorf("%s to %s: %d; want %d", plain(x.b), plain(x.a), got, -x.want)
		}
	}
}
