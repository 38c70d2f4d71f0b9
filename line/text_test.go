package line_test

import (
	"math"
	"math/big"
	"regexp"
	"slices"
	"strings"
	"testing"

	"belfry/api"
	"belfry/label"
	"belfry/line"
)

// written: samples that Check takes, with their texts.
var written = []struct {
	s line.Sample
	x string
}{
	{sample(one, 5, 70, 3, 9), `{a="x"} 5 @70 #3/9`},
	{sample(one, -5, 70, 3, 9), `{a="x"} -5 @70 #3/9`},
	{sample(one, 0, 0, 1, 1), `{a="x"} 0 @0 #1/1`},
	{sample(one, 1, 1, 1, 1), `{a="x"} 1 @1 #1/1`},
	{sample(one, -1, 9, 9, 9), `{a="x"} -1 @9 #9/9`},
	{sample(one, 10, 10, 10, 10), `{a="x"} 10 @10 #10/10`},
	{sample(one, -100, 100, 16, 100), `{a="x"} -100 @100 #16/100`},
	{sample(one, 1234567890, 1763500000000, 12, 123456789012), `{a="x"} 1234567890 @1763500000000 #12/123456789012`},
	{sample(one, math.MaxInt64, most, 16, mostSeq), `{a="x"} 9223372036854775807 @4398046511104 #16/9007199254740992`},
	{sample(one, math.MinInt64, most-1, 15, mostSeq-1), `{a="x"} -9223372036854775808 @4398046511103 #15/9007199254740991`},
	{sample(of("job", "web", "zone", "eu 1"), 42, 7, 2, 3), `{job="web",zone="eu 1"} 42 @7 #2/3`},
	{sample(of("_", " "), 5, 1, 1, 1), `{_=" "} 5 @1 #1/1`},
	{sample(of("a", "@"), 5, 1, 1, 1), `{a="@"} 5 @1 #1/1`},
	{sample(of("a", "#"), 5, 1, 1, 1), `{a="#"} 5 @1 #1/1`},
	{sample(of("a", "/"), 5, 1, 1, 1), `{a="/"} 5 @1 #1/1`},
	{sample(of("a", "{"), 5, 1, 1, 1), `{a="{"} 5 @1 #1/1`},
	{sample(of("a", "}"), 5, 1, 1, 1), `{a="}"} 5 @1 #1/1`},
	{sample(of("a", `"`, "b", `\`), 5, 1, 1, 1), `{a="\"",b="\\"} 5 @1 #1/1`},
	{sample(of("a", " 6 @2 #2/2"), 5, 1, 1, 1), `{a=" 6 @2 #2/2"} 5 @1 #1/1`},
	{sample(of("a", `"} 6 @2 #2/2`), 5, 1, 1, 1), `{a="\"} 6 @2 #2/2"} 5 @1 #1/1`},
	{sample(of("a", `{a="x"} 6 @2 #2/2`), 5, 1, 1, 1), `{a="{a=\"x\"} 6 @2 #2/2"} 5 @1 #1/1`},
	{sample(of("a", "} 6 @2 #2/2", "b", "} 7 @3 #3/3"), 5, 1, 1, 1), `{a="} 6 @2 #2/2",b="} 7 @3 #3/3"} 5 @1 #1/1`},
	{sample(of(longName, longValue), 5, 1, 1, 1), `{` + longName + `="` + longValue + `"} 5 @1 #1/1`},
	{sample(many(16), -3, 4, 5, 6), `{l00="v0",l01="v1",l02="v2",l03="v3",l04="v4",l05="v5",l06="v6",l07="v7",l08="v8",l09="v9",l10="v10",l11="v11",l12="v12",l13="v13",l14="v14",l15="v15"} -3 @4 #5/6`},
}

func TestText(t *testing.T) {
	for _, w := range written {
		room, untouched := guarded(t, w.s)
		for range 2 {
			if got := line.Text(room); got != w.x {
				t.Errorf("%v: %s; want %s", w.s, got, w.x)
			}
		}
		untouched("Text")
	}
}

// parses sees to it that Parse reads x as s, each time.
func parses(t *testing.T, x string, s line.Sample) {
	t.Helper()
	for range 2 {
		if got, e := line.Parse(x); e != api.OK || !same(got, s) {
			t.Errorf("%s: %v, %v; want %v", x, got, e, s)
		}
	}
}

func TestParse(t *testing.T) {
	for _, w := range written {
		parses(t, w.x, w.s)
	}
}

// TestParseReadsWhatTextWrites goes through sets, values of each byte and of each two of some, and numbers about where they grow longer.
func TestParseReadsWhatTextWrites(t *testing.T) {
	back := func(s line.Sample) {
		t.Helper()
		parses(t, line.Text(s), s)
	}
	for _, labels := range goodSets {
		back(sample(labels, -5, 70, 3, 9))
	}
	for c := ' '; c <= '~'; c++ {
		for _, d := range ` a5"\{},=@#/-` {
			back(sample(of("a", string(c)+string(d), "b", string(d)+string(c), "c", string(c)), 5, 70, 3, 9))
		}
	}
	for n := int64(1); n < math.MaxInt64/10; n *= 10 {
		for near := int64(-1); near <= 1; near++ {
			for src := 1; src <= 16; src++ {
				at := n + near
				back(sample(one, at, min(at, most), src, min(max(at, 1), mostSeq)))
				back(sample(one, -at, most-min(at, most), src, mostSeq-min(at, mostSeq-1)))
				back(sample(one, math.MaxInt64-at, at%most, src, at%mostSeq+1))
				back(sample(one, math.MinInt64+at, 0, src, 1))
			}
		}
	}
}

// refused sees to it that Parse answers e to each of l, and nothing beside it.
func refused(t *testing.T, e api.Errno, l ...string) {
	t.Helper()
	for _, x := range l {
		for range 2 {
			if got, err := line.Parse(x); !same(got, line.Sample{}) || err != e {
				t.Errorf("%.99q: %v, %v; want none and %v", x, got, err, e)
			}
		}
	}
}

func TestParseRefusesWhatTextDoesNotWrite(t *testing.T) {
	// Nothing, or parts that are missing.
	refused(t, api.ErrForm, "", " ", "x", "{", "}", "{}", "{} ", "5", `{a="x"}`, `{a="x"} `, `{a="x"} 5`, `{a="x"} 5 `, `{a="x"} 5 @1`, `{a="x"} 5 @1 `, `{a="x"} 5 @1 #1`, `{a="x"} 5 @1 #1/`, `{a="x"} 5 @1 #/1`, `{a="x"} 5 @1 #/`, `{a="x"} 5 @1 #`, `{a="x"} 5 @1 /1`, `{a="x"} 5 @1/1`, `{a="x"} 5 @ #1/1`, `{a="x"} 5 #1/1`, `{a="x"} @1 #1/1`, `{a="x"}  @1 #1/1`, `{a="x"} #1/1`, `{a="x"} @ #/`, `{a="x"}@#/`, " 5 @1 #1/1", "5 @1 #1/1", " @ #/", "@#/")
	// A blank too many, or missing, or something for it.
	refused(t, api.ErrForm, ` {a="x"} 5 @1 #1/1`, `{a="x"}  5 @1 #1/1`, `{a="x"} 5  @1 #1/1`, `{a="x"} 5 @ 1 #1/1`, `{a="x"} 5 @1  #1/1`, `{a="x"} 5 @1 # 1/1`, `{a="x"} 5 @1 #1 /1`, `{a="x"} 5 @1 #1/ 1`, `{a="x"} 5 @1 #1/1 `, `{a="x"} - 5 @1 #1/1`, `{a="x"} 5 5 @1 #1/1`, `{a="x"}5 @1 #1/1`, `{a="x"} 5@1 #1/1`, `{a="x"} 5 @1#1/1`, `{a="x"}5@1#1/1`,
		"{a=\"x\"}\t5 @1 #1/1", "{a=\"x\"} 5\t@1 #1/1", "{a=\"x\"} 5 @1\n#1/1", "{a=\"x\"} 5 @1 #1/1\n", "\n{a=\"x\"} 5 @1 #1/1", "{a=\"x\"} 5 @1 #1/1\r\n", "{a=\"x\"}\u00a05 @1 #1/1", "{a=\"x\"},5 @1 #1/1")
	// A mark that is missing, another, twice, in another place.
	refused(t, api.ErrForm, `{a="x"} 5 1 #1/1`, `{a="x"} 5 @1 1/1`, `{a="x"} 5 @1 #1 1`, `{a="x"} 5 @1 #11`, `{a="x"} 5 #1 #1/1`, `{a="x"} 5 @1 @1/1`, `{a="x"} 5 @1 #1#1`, `{a="x"} 5 @1 #1@1`, `{a="x"} 5 @1 #1:1`, `{a="x"} 5 @1 #1\1`, `{a="x"} 5 /1 #1/1`,
		`{a="x"} 5 @@1 #1/1`, `{a="x"} 5 @1@ #1/1`, `{a="x"} 5 @1 ##1/1`, `{a="x"} 5 @1 #1#/1`, `{a="x"} 5 @1 #1//1`, `{a="x"} 5 @1 #1/1/`, `{a="x"} 5 @1 #1/1/1`, `{a="x"} 5 @1 @1 #1/1`, `{a="x"} 5 @1 #1/1 #1/1`, `{a="x"} 5 @1 #1/1 @1`,
		`{a="x"} @5 @1 #1/1`, `{a="x"} #5 @1 #1/1`, `{a="x"} 5 #1/1 @1`, `{a="x"} 5 1@ #1/1`, `{a="x"} 5 @1 1#/1`, `{a="x"} 5 @1 1/1#`, `{a="x"} 5 @1 /1#1`, `{a="x"} 5 @1 #/11`, `{a="x"} 5 @1 #11/`, `{a="x"} 5 @1/1 #1`, `@1 {a="x"} 5 #1/1`, `5 {a="x"} @1 #1/1`, `{a="x"} @1 5 #1/1`, `#1/1 @1 5 {a="x"}`, `@{a="x"} 5 1 #1/1`)
	// Another byte behind the last digit, or ahead of the labels.
	refused(t, api.ErrForm, `{a="x"} 5 @1 #1/1x`, `{a="x"} 5 @1 #1/1,`, `{a="x"} 5 @1 #1/1}`, `{a="x"} 5 @1 #1/1{}`, `{a="x"} 5 @1 #1/1"`, `{a="x"} 5 @1 #1/1-`, `{a="x"} 5 @1 #1/1.`, "{a=\"x\"} 5 @1 #1/1\x00", "{a=\"x\"} 5 @1 #1/1\xff", `{a="x"} 5 @1 #1/1{a="x"} 5 @1 #1/1`, `x{a="x"} 5 @1 #1/1`, `{a="x"}} 5 @1 #1/1`, `{a="x"}x 5 @1 #1/1`, "\ufeff{a=\"x\"} 5 @1 #1/1")
	// Long ones.
	refused(t, api.ErrForm, strings.Repeat("}", 1<<20), strings.Repeat(" ", 1<<20), strings.Repeat("{} 5 @1 #1/1", 1<<16), `{a="x"} `+strings.Repeat("-", 1<<20), `{a="x"}`+strings.Repeat(" 5", 1<<20), `{a="x"} 5 @1 #`+strings.Repeat("1/", 1<<19))
}

// inEachPlace tells texts with number in each of the four places, and numbers that may be in the others.
func inEachPlace(number string) []string {
	return []string{
		`{a="x"} ` + number + ` @1 #1/1`,
		`{a="x"} 5 @` + number + ` #1/1`,
		`{a="x"} 5 @1 #` + number + `/1`,
		`{a="x"} 5 @1 #1/` + number,
	}
}

func TestParseRefusesOtherNumbers(t *testing.T) {
	for _, number := range []string{
		"", "-", "--", "+", "-0", "+0", "--0", "00", "000", "01", "001", "-00", "-01", "-007", "05", "+1", "+5", "++1", "--1", "-+1", "+-1", "1-", "1-1", "1+", "5.0", "5.", ".5", "-.5", "1e3", "1E3", "1_0", "1,0", "0x1", "0X1", "0b1", "0o1", "1f", "a", "x", "NaN", "Inf", "-Inf", "nil",
		"\u0661", "\uff11", "\u22121", "\u20131", "1\x00", "\x001", "\xff", "1\xff", `"1"`, "'1'", "{1}", "(1)", "1ms", "1s",
		"0" + strings.Repeat("9", 18), strings.Repeat("0", 1<<20), "-" + strings.Repeat("0", 1<<20), strings.Repeat("0", 1<<20) + "1",
	} {
		refused(t, api.ErrForm, inEachPlace(number)...)
	}
	// Beyond 64 bits.
	for _, number := range []string{
		"9223372036854775808", "9223372036854775809", "9223372036854775817", "9999999999999999999", "10000000000000000000", "18446744073709551615", "18446744073709551616", "18446744073709551617", "18446744073709551621", "92233720368547758070", "340282366920938463463374607431768211457",
		"-9223372036854775809", "-9223372036854775818", "-10000000000000000000", "-18446744073709551615", "-18446744073709551617", strings.Repeat("9", 400), "-" + strings.Repeat("9", 400), strings.Repeat("1", 1<<20),
	} {
		refused(t, api.ErrForm, inEachPlace(number)...)
	}
}

func TestParseRefusesLabelsThatAreNotWell(t *testing.T) {
	for _, labels := range []string{
		"", "{", "}", "{{", "}{", "{}{}", "{}}", "{{}", " {}", "{} ", "{ }", "{,}", "[]", "()", "{a}", "{a=}", `{a="`, `{a="}`, `{a="x`, `{a="x}`, `{a=x}`, `{a=x"}`, `{"a"}`, `{a"x"}`, `{a= "x"}`, `{a=="x"}`, `{a='x'}`, `{a=~"x"}`, `{a="x"`, `a="x"}`, `a="x"`, `{a="x",}`, `{a="x"b="y"}`, `{a="x" ,b="y"}`, `{a="x";b="y"}`, `{a="x",b}`, `{a="x",b="y`, `{a="\n"}`, `{a="\x"}`, `{a="\"}`, `{a="\}`, `{a="x\"}`, `{}a="x"}`, `{}="x"}`, `{a="x"} `, ` {a="x"}`, `{a="x"} {b="y"}`, `{a="x"}{b="y"}`, `{a="x"} 5`, `{a="x"} 5 @1 #1/1`, `{a="x"} 5 @1 #1/1 {a="x"}`,
	} {
		refused(t, api.ErrForm, labels+" 5 @1 #1/1", labels+" -5 @0 #16/9007199254740992", labels+" 5 @-1 #0/0", labels+" 5 @01 #1/1")
	}
}

func TestParseTellsWhatCheckSays(t *testing.T) {
	for _, x := range noSets {
		refused(t, x.e, line.Text(sample(x.labels, 5, 70, 3, 9)), line.Text(sample(x.labels, 0, 0, 1, 1)), line.Text(sample(x.labels, math.MinInt64, -1, 0, -1)))
	}
	refused(t, api.ErrName, "{} 5 @1 #1/1", `{A="x"} 5 @1 #1/1`, `{="x"} 5 @1 #1/1`, `{ a="x"} 5 @1 #1/1`, `{a} 5 @1 #1/1,b="x"} 5 @1 #1/1`, `{a="x", b="y"} 5 @1 #1/1`, `{a="x",} 5 @1 #1/1,b="y"} 5 @1 #1/1`)
	for _, labels := range goodSets {
		for _, time := range noTimes {
			refused(t, api.ErrArg, line.Text(sample(labels, 5, time, 3, 9)))
		}
		for _, src := range noSrcs {
			refused(t, api.ErrArg, line.Text(sample(labels, 5, 70, src, 9)))
		}
		for _, seq := range noSeqs {
			refused(t, api.ErrArg, line.Text(sample(labels, 5, 70, 3, seq)))
		}
	}
	refused(t, api.ErrArg, `{a="x"} 5 @-1 #1/1`, `{a="x"} 5 @4398046511105 #1/1`, `{a="x"} 5 @9223372036854775807 #1/1`, `{a="x"} 5 @-9223372036854775808 #1/1`,
		`{a="x"} 5 @1 #0/1`, `{a="x"} 5 @1 #17/1`, `{a="x"} 5 @1 #-1/1`, `{a="x"} 5 @1 #4294967297/1`, `{a="x"} 5 @1 #9223372036854775807/1`, `{a="x"} 5 @1 #-9223372036854775808/1`,
		`{a="x"} 5 @1 #1/0`, `{a="x"} 5 @1 #1/9007199254740993`, `{a="x"} 5 @1 #1/-1`, `{a="x"} 5 @1 #1/9223372036854775807`, `{a="x"} 5 @1 #1/-9223372036854775808`)
}

// TestParseTellsOfTheFormFirst: faults of Check, and behind or ahead of them one of the form.
func TestParseTellsOfTheFormFirst(t *testing.T) {
	for _, labels := range []string{"{}", `{A="x"}`, `{="x"}`, `{a="x",a="x"}`, `{b="x",a="y"}`, `{a=""}`, "{a=\"\n\"}", label.Text(many(17)), `{a="x"}`} {
		refused(t, api.ErrForm, labels+" 05 @-1 #0/0", labels+" -0 @-1 #0/0", labels+" 5 @-01 #0/0", labels+" 5 @-1 #00/0", labels+" 5 @-1 #0/00", labels+" 5 @-1 #0/-0", labels+" 5 @-1 #0/x", labels+" 5 @-1 #0/0 ", labels+" 5 @-1 #0", labels+" 5 @-1 0/0", labels+"5 @-1 #0/0", labels+"  5 @-1 #0/0",
			labels+" 9223372036854775808 @-1 #0/0", labels+" 5 @9223372036854775808 #0/0", labels+" 5 @-1 #9223372036854775808/0", labels+" 5 @-1 #0/9223372036854775808", labels+"} 5 @-1 #0/0", " "+labels+" 5 @-1 #0/0")
	}
}

// other tells by the library's means, and from the right, what Parse should tell of a text.
func other() func(x string) (line.Sample, api.Errno) {
	form := regexp.MustCompile(`(?s)^(.*) (0|-?[1-9][0-9]*) @(0|-?[1-9][0-9]*) #(0|-?[1-9][0-9]*)/(0|-?[1-9][0-9]*)$`)
	within := func(n, least, greatest int64) bool { return least <= n && n <= greatest }
	return func(x string) (line.Sample, api.Errno) {
		parts := form.FindStringSubmatch(x)
		if parts == nil {
			return line.Sample{}, api.ErrForm
		}
		var n [4]int64
		for i, part := range parts[2:] {
			exact, _ := new(big.Int).SetString(part, 10)
			if !exact.IsInt64() {
				return line.Sample{}, api.ErrForm
			}
			n[i] = exact.Int64()
		}
		labels, e := label.Parse(parts[1])
		switch {
		case e != api.OK:
			return line.Sample{}, e
		case len(labels) == 0:
			return line.Sample{}, api.ErrName
		case !within(n[1], 0, most) || !within(n[2], 1, 16) || !within(n[3], 1, mostSeq):
			return line.Sample{}, api.ErrArg
		}
		return sample(labels, n[0], n[1], int(n[2]), n[3]), api.OK
	}
}

// asOther sees to it that Parse tells what want does of x, and that of what it takes Text is x and Check takes it.
func asOther(t *testing.T, x string, want func(x string) (line.Sample, api.Errno)) api.Errno {
	t.Helper()
	s, e := want(x)
	got, err := line.Parse(x)
	if err != e || !same(got, s) {
		t.Errorf("%q: %v, %v; want %v, %v", x, got, err, s, e)
	}
	if err == api.OK && (line.Text(got) != x || line.Check(got) != api.OK) {
		t.Errorf("%q: its text is %q, and Check says %v", x, line.Text(got), line.Check(got))
	}
	return e
}

// TestParseOfAll holds Parse against the library for all short ends of texts of the bytes that matter.
func TestParseOfAll(t *testing.T) {
	want, count := other(), 0
	var look func(x string, more int)
	look = func(x string, more int) {
		if asOther(t, x, want) == api.OK {
			count++
		}
		if more == 0 {
			return
		}
		for _, c := range []string{" ", "@", "#", "/", "-", "0", "1", "7", "}", `"`} {
			look(x+c, more-1)
		}
	}
	for _, front := range []string{"", `{a="x"}`, `{a="`, `{a="x"} 5`, `{a="x"} -1 @`, `{a="x"} 5 @0`, `{a="x"} 5 @1 #`, `{a="x"} 5 @1 #1/`, `{a="x"} 5 @439804651110`, `{a="x"} 5 @1 #1/900719925474099`, `{a="x"} 922337203685477580`} {
		look(front, 4)
	}
	if count < 100 {
		t.Errorf("%d texts only", count)
	}
}

// TestParseOfAllNear holds Parse against the library for all texts that are one byte off one that is well written.
func TestParseOfAllNear(t *testing.T) {
	want := other()
	for _, w := range written {
		for i := range len(w.x) + 1 {
			asOther(t, w.x[:i], want)
			asOther(t, w.x[i:], want)
			for _, c := range " @#/-+0179x,=\"\\{}\n\x00" {
				asOther(t, w.x[:i]+string(c)+w.x[i:], want)
				if i < len(w.x) {
					asOther(t, w.x[:i]+string(c)+w.x[i+1:], want)
				}
			}
			if i < len(w.x) {
				asOther(t, w.x[:i]+w.x[i+1:], want)
				asOther(t, w.x[:i]+w.x[i:i+1]+w.x[i:], want)
			}
			if i+1 < len(w.x) {
				asOther(t, w.x[:i]+w.x[i+1:i+2]+w.x[i:i+1]+w.x[i+2:], want)
			}
		}
	}
}

func TestParsedSamplesAreNew(t *testing.T) {
	s := sample(many(5), 5, 70, 3, 9)
	first, _ := line.Parse(line.Text(s))
	second, _ := line.Parse(line.Text(s))
	_ = append(first.Labels, spare)
	over := first.Labels[:cap(first.Labels)]
	copy(over, slices.Repeat(label.Set{spare}, len(over)))
	if !same(second, s) {
		t.Errorf("another answer: %v", second)
	}
	parses(t, line.Text(s), s)
}
