package json_test

import (
	"bytes"
	stdjson "encoding/json"
	"fmt"
	"math"
	"math/big"
	"regexp"
	"slices"
	"strings"
	"testing"

	"belfry/api"
	"belfry/json"
	"belfry/label"
)

// written: notes that Check takes, with their texts.
var written = []struct {
	n json.Note
	x string
}{
	{made(), `{"key":"k","to":"ops","group":{"a":"x","b":"y"},"at":70,"items":[{"status":"firing","rule":"r","labels":{"c":"z","d":"w"},"since":60},{"status":"resolved","rule":"q","labels":{"e":"u","f":"v"},"since":50}]}`},
	{note("", "a", nil, 0), `{"key":"","to":"a","group":{},"at":0,"items":[]}`},
	{note("ops|{}|70", "ops", of("job", "web"), 1763500000000), `{"key":"ops|{}|70","to":"ops","group":{"job":"web"},"at":1763500000000,"items":[]}`},
	{note("k", "ops", nil, 9, item("firing", "r", nil, 0)), `{"key":"k","to":"ops","group":{},"at":9,"items":[{"status":"firing","rule":"r","labels":{},"since":0}]}`},
	{note("k", "ops", nil, most, item("resolved", "q", of("zone", "eu 1"), most)), `{"key":"k","to":"ops","group":{},"at":4398046511104,"items":[{"status":"resolved","rule":"q","labels":{"zone":"eu 1"},"since":4398046511104}]}`},
	{note(" ~", "_", of("_", " "), 10, item("firing", "a9_", of("a", "~"), 10)), `{"key":" ~","to":"_","group":{"_":" "},"at":10,"items":[{"status":"firing","rule":"a9_","labels":{"a":"~"},"since":10}]}`},
	{note(`"`, "ops", of("a", `"`), 1, item("firing", "r", of("a", `"`), 1)), `{"key":"\"","to":"ops","group":{"a":"\""},"at":1,"items":[{"status":"firing","rule":"r","labels":{"a":"\""},"since":1}]}`},
	{note(`\`, "ops", of("a", `\`), 1, item("firing", "r", of("a", `\`), 1)), `{"key":"\\","to":"ops","group":{"a":"\\"},"at":1,"items":[{"status":"firing","rule":"r","labels":{"a":"\\"},"since":1}]}`},
	{note(`x"y\z`, "ops", of("a", `\"`, "b", `"\`), 1), `{"key":"x\"y\\z","to":"ops","group":{"a":"\\\"","b":"\"\\"},"at":1,"items":[]}`},
	{note(`","to":"x`, "ops", of("a", `":{}[],`), 1, item("firing", "r", of("a", `"}]}`), 1)), `{"key":"\",\"to\":\"x","to":"ops","group":{"a":"\":{}[],"},"at":1,"items":[{"status":"firing","rule":"r","labels":{"a":"\"}]}"},"since":1}]}`},
	{note("<>&'/", "ops", of("a", `\u0041\n`), 1), `{"key":"<>&'/","to":"ops","group":{"a":"\\u0041\\n"},"at":1,"items":[]}`},
	{note("k", longName, of(longName, longValue), 1, item("firing", longName, nil, 1), item("firing", longName, nil, 1), item("resolved", longName, nil, 1)),
		`{"key":"k","to":"` + longName + `","group":{"` + longName + `":"` + longValue + `"},"at":1,"items":[{"status":"firing","rule":"` + longName + `","labels":{},"since":1},{"status":"firing","rule":"` + longName + `","labels":{},"since":1},{"status":"resolved","rule":"` + longName + `","labels":{},"since":1}]}`},
	{note("k", "ops", many(16), 100, item("firing", "r", many(16), 99)), `{"key":"k","to":"ops","group":` + sixteen + `,"at":100,"items":[{"status":"firing","rule":"r","labels":` + sixteen + `,"since":99}]}`},
}

const sixteen = `{"l00":"v0","l01":"v1","l02":"v2","l03":"v3","l04":"v4","l05":"v5","l06":"v6","l07":"v7","l08":"v8","l09":"v9","l10":"v10","l11":"v11","l12":"v12","l13":"v13","l14":"v14","l15":"v15"}`

// quoted tells s as texts have it.
func quoted(s string) string {
	return `"` + strings.NewReplacer(`"`, `\"`, `\`, `\\`).Replace(s) + `"`
}

// wroteSet tells s as notes have it.
func wroteSet(s label.Set) string {
	var l []string
	for _, x := range s {
		l = append(l, quoted(x.Name)+":"+quoted(x.Value))
	}
	return "{" + strings.Join(l, ",") + "}"
}

// wrote tells n as the promise has it, whether Check takes it or not.
func wrote(n json.Note) string {
	var l []string
	for _, i := range n.Items {
		l = append(l, fmt.Sprintf(`{"status":%s,"rule":%s,"labels":%s,"since":%d}`, quoted(i.Status), quoted(i.Rule), wroteSet(i.Labels), i.Since))
	}
	return fmt.Sprintf(`{"key":%s,"to":%s,"group":%s,"at":%d,"items":[%s]}`, quoted(n.Key), quoted(n.To), wroteSet(n.Group), n.At, strings.Join(l, ","))
}

// encodes sees to it that Encode writes n as x, each time, and leaves n as it was.
func encodes(t *testing.T, n json.Note, x string) {
	t.Helper()
	room, untouched := guarded(t, n)
	for range 2 {
		if got, e := json.Encode(room); e != api.OK || string(got) != x {
			t.Errorf("%.199v: %.199s, %v; want %.199s", n, got, e, x)
		}
	}
	untouched("Encode")
}

// decode tells what Decode does of x, and sees to it that it leaves what it is handed, and tells the same again.
func decode(t *testing.T, x string) (json.Note, api.Errno) {
	t.Helper()
	room := []byte(x + "spare room")
	b := room[:len(x)]
	n, e := json.Decode(b)
	if again, err := json.Decode(b); err != e || !alike(again, n) {
		t.Errorf("%.199q: now %.199v, %v, now %.199v, %v", x, n, e, again, err)
	}
	if string(room) != x+"spare room" {
		t.Errorf("%.199q: changed to %.199q", x, room)
	}
	return n, e
}

// decodes sees to it that Decode reads x as n.
func decodes(t *testing.T, x string, n json.Note) {
	t.Helper()
	if got, e := decode(t, x); e != api.OK || !alike(got, n) || !json.Same(got, n) {
		t.Errorf("%.199s: %.199v, %v; want %.199v", x, got, e, n)
	}
}

// refused sees to it that Decode answers e to each of l, and nothing beside it.
func refused(t *testing.T, e api.Errno, l ...string) {
	t.Helper()
	for _, x := range l {
		if got, err := decode(t, x); !alike(got, json.Note{}) || err != e {
			t.Errorf("%.199q: %.199v, %v; want none and %v", x, got, err, e)
		}
	}
}

func TestEncodeAndDecode(t *testing.T) {
	for _, w := range written {
		if wrote(w.n) != w.x {
			t.Errorf("%v: the tests' own text is %s; want %s", w.n, wrote(w.n), w.x)
		}
		encodes(t, w.n, w.x)
		decodes(t, w.x, w.n)
	}
}

// back sees to it that n is written as the promise has it, and is read back as it was.
func back(t *testing.T, n json.Note) {
	t.Helper()
	encodes(t, n, wrote(n))
	b, _ := json.Encode(n)
	decodes(t, string(b), n)
	read, _ := json.Decode(b)
	if again, e := json.Encode(read); e != api.OK || !bytes.Equal(again, b) {
		t.Errorf("%.199s: encoded again %.199s, %v", b, again, e)
	}
}

// TestDecodeReadsWhatEncodeWrites goes through all good notes, texts of each byte and of each two of some, and times about where they grow longer.
func TestDecodeReadsWhatEncodeWrites(t *testing.T) {
	for _, n := range good() {
		back(t, n)
	}
	for c := ' '; c <= '~'; c++ {
		for _, d := range ` a5"\{}[],:-` {
			ab, ba := string(c)+string(d), string(d)+string(c)
			back(t, note(ab, "ops", of("a", ba, "b", ab), 70, item("firing", "r", of("a", ab), 60), item("resolved", "q", of("a", string(c), "b", ba), 50)))
		}
	}
	for n := int64(1); n <= most; n *= 10 {
		for near := int64(-1); near <= 1; near++ {
			back(t, note("k", "ops", nil, n+near, item("firing", "r", nil, most-n-near), item("firing", "r", nil, n+near)))
		}
	}
	for n := range 17 {
		back(t, note("k", "ops", many(n), 70, item("firing", "r", many(16-n), 60), item("firing", "r", many(n), 60)))
	}
}

// TestEncodeAsTheLibrary: what goes out is what the library makes of the same fields, and reads as them.
func TestEncodeAsTheLibrary(t *testing.T) {
	set := func(s label.Set) map[string]string {
		m := map[string]string{}
		for _, l := range s {
			m[l.Name] = l.Value
		}
		return m
	}
	type libraryItem struct {
		Status string            `json:"status"`
		Rule   string            `json:"rule"`
		Labels map[string]string `json:"labels"`
		Since  int64             `json:"since"`
	}
	type libraryNote struct {
		Key   string            `json:"key"`
		To    string            `json:"to"`
		Group map[string]string `json:"group"`
		At    int64             `json:"at"`
		Items []libraryItem     `json:"items"`
	}
	for _, n := range good() {
		x := libraryNote{n.Key, n.To, set(n.Group), n.At, []libraryItem{}}
		for _, i := range n.Items {
			x.Items = append(x.Items, libraryItem{i.Status, i.Rule, set(i.Labels), i.Since})
		}
		var b bytes.Buffer
		e := stdjson.NewEncoder(&b)
		e.SetEscapeHTML(false)
		if err := e.Encode(x); err != nil {
			t.Fatal(err)
		}
		encodes(t, n, strings.TrimSuffix(b.String(), "\n"))
	}
}

// TestRefusesWhatCheckDoes: Encode a note, and Decode its text, by what Check says.
func TestRefusesWhatCheckDoes(t *testing.T) {
	refuses := func(n json.Note, e api.Errno) {
		t.Helper()
		room, untouched := guarded(t, n)
		for range 2 {
			if got, err := json.Encode(room); len(got) != 0 || err != e {
				t.Errorf("%.199v: %.199s, %v; want none and %v", n, got, err, e)
			}
		}
		untouched("Encode")
		refused(t, e, wrote(n))
	}
	all := faults()
	for i, f := range all {
		n := made()
		f.change(&n)
		refuses(n, f.e)
		// Several faults: the first one of each part beside the first one behind it.
		if i == 0 || all[i-1].part != f.part {
			for _, second := range all[i:] {
				if second.part > f.part {
					n := made()
					second.change(&n)
					f.change(&n)
					refuses(n, f.e)
					break
				}
			}
		}
	}
	refuses(json.Note{}, api.ErrName)
	refuses(note("k", "ops", nil, 70, json.Item{}), api.ErrForm)
	refuses(note("k", "ops", nil, 70, items(mostList+1)...), api.ErrLong)
}

func TestDecodeRefusesCutNotes(t *testing.T) {
	for _, w := range written {
		for i := range w.x {
			refused(t, api.ErrForm, w.x[:i])
			if i > 0 {
				refused(t, api.ErrForm, w.x[i:])
			}
		}
		for c := range 256 {
			more := string([]byte{byte(c)})
			refused(t, api.ErrForm, w.x+more, more+w.x)
		}
		refused(t, api.ErrForm, w.x+w.x, w.x+","+w.x, "["+w.x+"]", `"`+w.x+`"`, "\ufeff"+w.x)
	}
	if _, e := json.Decode(nil); e != api.ErrForm {
		t.Errorf("no list of bytes: %v", e)
	}
}

// TestDecodeRefusesBlanks puts one in each place that is in no text.
func TestDecodeRefusesBlanks(t *testing.T) {
	x, within, count := wrote(made()), false, 0
	for i := range x {
		if !within {
			for _, blank := range []string{" ", "\t", "\n", "\r", "  ", "\r\n", "\x00", "\v", "\f", "\u00a0"} {
				refused(t, api.ErrForm, x[:i]+blank+x[i:])
			}
			count++
		}
		if x[i] == '"' {
			within = !within
		}
	}
	if count < 80 {
		t.Errorf("%d places only", count)
	}
}

// instead tells x with each of now for old, which is there.
func instead(t *testing.T, x, old string, now ...string) []string {
	t.Helper()
	if !strings.Contains(x, old) {
		t.Fatalf("%s has no %s", x, old)
	}
	var l []string
	for _, s := range now {
		l = append(l, strings.Replace(x, old, s, 1))
	}
	return l
}

func TestDecodeRefusesOtherFields(t *testing.T) {
	x := wrote(made())
	fields := []string{`"key":"k"`, `"to":"ops"`, `"group":{"a":"x","b":"y"}`, `"at":70`, x[strings.Index(x, `"items"`) : len(x)-1]}
	itemFields := []string{`"status":"firing"`, `"rule":"r"`, `"labels":{"c":"z","d":"w"}`, `"since":60`}
	first := "{" + strings.Join(itemFields, ",") + "}"
	if "{"+strings.Join(fields, ",")+"}" != x || !strings.Contains(x, first) {
		t.Fatal("the fields are not those of the text")
	}
	other := func(old string, l []string) {
		t.Helper()
		if now := "{" + strings.Join(l, ",") + "}"; now != old {
			refused(t, api.ErrForm, strings.Replace(x, old, now, 1))
		}
	}
	for _, x := range []struct {
		old string
		l   []string
	}{{x, fields}, {first, itemFields}} {
		for i := range x.l {
			other(x.old, slices.Delete(slices.Clone(x.l), i, i+1))
			other(x.old, slices.Insert(slices.Clone(x.l), i, x.l[i]))
			other(x.old, slices.Insert(slices.Clone(x.l), i, `"more":1`))
			other(x.old, slices.Insert(slices.Clone(x.l), i, ``))
			other(x.old, append(slices.Clone(x.l), x.l[i]))
			for k := range x.l {
				moved := slices.Delete(slices.Clone(x.l), i, i+1)
				other(x.old, slices.Insert(moved, k, x.l[i]))
			}
		}
		other(x.old, append(slices.Clone(x.l), `"more":1`))
		other(x.old, append(slices.Clone(x.l), ``))
		other(x.old, nil)
		other(x.old, []string{strings.Join(x.l, ",,")})
		other(x.old, []string{strings.Join(x.l, ";")})
		other(x.old, []string{strings.Join(x.l, "")})
	}
	for _, name := range []string{"key", "to", "group", "at", "items", "status", "rule", "labels", "since"} {
		now := []string{name + ":", "'" + name + "':", `"` + name + `"`, `"` + name + `"=`, `"` + name + `"::`, `"` + name + ` ":`, `" ` + name + `":`, `"` + strings.ToUpper(name) + `":`, `"` + strings.ToUpper(name[:1]) + name[1:] + `":`, `"` + name + `s":`, `"` + name[1:] + `":`, `"` + name[:len(name)-1] + `":`, `"":`, `:`, ``, `"\` + name + `":`, `\"` + name + `":`, `"` + name + `\":`, `"\u00` + fmt.Sprintf("%02x", name[0]) + name[1:] + `":`}
		refused(t, api.ErrForm, instead(t, x, `"`+name+`":`, now...)...)
	}
	// Names of one that are in place of another, or of the one behind.
	refused(t, api.ErrForm, instead(t, x, `"to"`, `"key"`, `"rule"`)...)
	refused(t, api.ErrForm, instead(t, x, `"group"`, `"labels"`)...)
	refused(t, api.ErrForm, instead(t, x, `"labels"`, `"group"`)...)
	refused(t, api.ErrForm, instead(t, x, `"since"`, `"at"`)...)
	refused(t, api.ErrForm, instead(t, x, `"at"`, `"since"`)...)
}

func TestDecodeRefusesOtherMarks(t *testing.T) {
	x := wrote(made())
	// Commas too many or missing, or something for them, in the note, its group, its items, an item, its labels.
	for _, old := range []string{`,"to"`, `,"group"`, `,"at"`, `,"items"`, `,"b"`, `,{"status"`, `,"rule"`, `,"labels"`, `,"since"`, `,"d"`} {
		refused(t, api.ErrForm, instead(t, x, old, old[1:], ","+old, ";"+old[1:], ":"+old[1:], "}"+old, "{"+old, old[:1]+"}"+old[1:], `"`+old, "]"+old, "["+old)...)
	}
	refused(t, api.ErrForm, instead(t, x, `"key"`, `,"key"`)...)
	refused(t, api.ErrForm, instead(t, x, `{"a"`, `{,"a"`, `"a"`, `{{"a"`, `["a"`, `[{"a"`, `{["a"`)...)
	refused(t, api.ErrForm, instead(t, x, `"y"}`, `"y",}`, `"y"`, `"y"}}`, `"y"]`, `"y"]}`, `"y"}]`)...)
	refused(t, api.ErrForm, instead(t, x, `{"c"`, `{,"c"`, `"c"`, `{{"c"`, `["c"`)...)
	refused(t, api.ErrForm, instead(t, x, `"w"}`, `"w",}`, `"w"`, `"w"}}`, `"w"]`, `"w"}]`)...)
	refused(t, api.ErrForm, instead(t, x, `[{`, `[,{`, `{`, `[`, `[[{`, `[{{`, `{{`, `({`, `[]{`, `[],{`, `[{},{`)...)
	refused(t, api.ErrForm, instead(t, x, `60},{`, `60}{`, `60},,{`, `60,{`, `60},`, `60]},{`, `60}],{`, `60}},{`, `60},[{`, `60},{{`, `60}],[{`, `60},{},{`, `60},[],{`, `60},null,{`)...)
	refused(t, api.ErrForm, instead(t, x, `50}]}`, `50},]}`, `50}}`, `50]}`, `50}]`, `50}`, `50}]]}`, `50}}]}`, `50}]}}`, `50}]},`, `50,}]}`, `50}],}`, `50}}]`, `50})}`)...)
	// Lists of none, and what is none of them.
	none := wrote(note("k", "ops", nil, 70, item("firing", "r", nil, 60)))
	for _, old := range []string{`"group":{}`, `"labels":{}`} {
		for _, now := range []string{``, `{`, `}`, `{,}`, `{{}}`, `{}}`, `{}{}`, `{},{}`, `[]`, `()`, `""`, `"{}"`, `null`, `0`, `{""}`, `{"":}`, `{:""}`, `{:}`, `{"a"}`, `{"a":}`, `{a:"x"}`, `{"a":x}`, `{"a":"x}`, `{a":"x"}`, `{"a":1}`, `{"a":null}`, `{"a":{}}`, `{"a":["x"]}`, `{"a"="x"}`, `{"a","x"}`, `{"a":"x":"y"}`, `{"a":"x" "b":"y"}`, `{"a":"x";"b":"y"}`, `{'a':'x'}`, `["a","x"]`, `{"a":"x",{}}`, `{{"a":"x"}}`, `[{"a":"x"}]`} {
			refused(t, api.ErrForm, instead(t, none, old, old[:len(old)-2]+now)...)
		}
	}
	empty := wrote(note("k", "ops", nil, 70))
	for _, now := range []string{``, `[`, `]`, `[,]`, `[[]]`, `[]]`, `[][]`, `[],[]`, `{}`, `()`, `""`, `"[]"`, `null`, `0`, `[{}]`, `[{},{}]`, `[""]`, `[null]`, `[1]`, `[]}`, `[{]`, `[}]`} {
		refused(t, api.ErrForm, instead(t, empty, `[]`, now)...)
	}
	// What the library's reader would take.
	refused(t, api.ErrForm, "null", "{}", "[]", `""`, "0", "true", `{"key":"k"}`, strings.ReplaceAll(x, ",", ", "), strings.ReplaceAll(x, ":", ": "), strings.ReplaceAll(x, `"k"`, "null"), strings.ReplaceAll(x, "70", `"70"`), strings.ReplaceAll(x, "70", "70.0"), strings.ReplaceAll(x, "70", "7e1"))
	// Long ones.
	for _, s := range []string{"{", "}", "[", "]", `"`, `\`, ",", ":", "0", "1", "-", " ", "\x00", `{"key":`, `{"key":"",`, `{"status":"",`, x} {
		for _, front := range []string{``, `{"key":`, `{"key":"`, `{"key":"k","to":"ops","group":`, `{"key":"k","to":"ops","group":{"a":"x"`, `{"key":"k","to":"ops","group":{},"at":`, `{"key":"k","to":"ops","group":{},"at":1,"items":`, `{"key":"k","to":"ops","group":{},"at":1,"items":[`} {
			refused(t, api.ErrForm, front+strings.Repeat(s, 1<<18/len(s)))
		}
	}
}

// inEachNumber tells texts with number in each place of one.
func inEachNumber(number string) []string {
	item := `{"status":"firing","rule":"r","labels":{},"since":`
	return []string{
		`{"key":"k","to":"ops","group":{},"at":` + number + `,"items":[]}`,
		`{"key":"k","to":"ops","group":{},"at":70,"items":[` + item + number + `}]}`,
		`{"key":"k","to":"ops","group":{},"at":70,"items":[` + item + `60},` + item + number + `}]}`,
	}
}

func TestDecodeRefusesOtherNumbers(t *testing.T) {
	for _, number := range []string{
		"", "-", "--", "+", "+1", "+0", "-0", "--1", "-+1", "1-", "1-1", "7-0", "0-1", "00", "01", "007", "-01", "-00", "0-", "-1-", "0x1", "1x", "x1", "x", "1_0", "1.0", "1.", ".1", "1e1", "1E1", "1,0", " 1", "1 ", "- 1", "1 0", "\t1", "1\n", "\"1\"", "\"\"", "null", "true", "NaN", "Infinity", "-Infinity", "{}", "[]", "[1]", "\u0661", "\uff11", "1\x00", "\xff",
		"9223372036854775808", "-9223372036854775809", "9223372036854775810", "10000000000000000000", "18446744073709551615", "18446744073709551616", "18446744073709551686", "-18446744073709551546", "99999999999999999999", "340282366920938463463374607431768211456", "-99999999999999999999", "000", "00000000000000000000000000000070", strings.Repeat("9", 1<<20), strings.Repeat("0", 1<<20), strings.Repeat("-", 1<<20),
	} {
		refused(t, api.ErrForm, inEachNumber(number)...)
	}
}

func TestDecodeTellsWhatNumbersAreRefusedFor(t *testing.T) {
	for _, number := range noTimes {
		refused(t, api.ErrArg, inEachNumber(fmt.Sprint(number))...)
	}
	refused(t, api.ErrArg, inEachNumber("-1")...)
	refused(t, api.ErrArg, inEachNumber("-70")...)
	refused(t, api.ErrArg, inEachNumber("4398046511105")...)
	refused(t, api.ErrArg, inEachNumber("9223372036854775807")...)
	refused(t, api.ErrArg, inEachNumber("-9223372036854775808")...)
	for number, n := range map[string]int64{"0": 0, "1": 1, "70": 70, "4398046511104": most} {
		x := inEachNumber(number)
		decodes(t, x[0], note("k", "ops", nil, n))
		decodes(t, x[1], note("k", "ops", nil, 70, item("firing", "r", nil, n)))
		decodes(t, x[2], note("k", "ops", nil, 70, item("firing", "r", nil, 60), item("firing", "r", nil, n)))
	}
}

// inEachText tells texts with inner between the `"` in each place of a text, by what Check says of bytes there that may not be.
func inEachText(inner string) map[string]api.Errno {
	l := map[string]api.Errno{}
	for place, e := range []api.Errno{api.ErrArg, api.ErrName, api.ErrName, api.ErrArg, api.ErrForm, api.ErrName, api.ErrName, api.ErrArg} {
		s := []any{"k", "ops", "a", "x", "firing", "r", "a", "x"}
		s[place] = inner
		l[fmt.Sprintf(`{"key":"%s","to":"%s","group":{"%s":"%s"},"at":70,"items":[{"status":"%s","rule":"%s","labels":{"%s":"%s"},"since":60}]}`, s...)] = e
	}
	return l
}

func TestDecodeRefusesOtherTexts(t *testing.T) {
	for c := range 256 {
		if c == '"' || c == '\\' {
			continue
		}
		behind := string([]byte{byte(c)})
		for x := range inEachText(`\` + behind) {
			refused(t, api.ErrForm, x)
		}
		for x := range inEachText(`k\\\` + behind + `k`) {
			refused(t, api.ErrForm, x)
		}
	}
	for _, inner := range []string{`\`, `x\`, `x\\\`, `\\\`, `"`, `""`, `"x`, `x"`, `x"x`, `\""`, `\\"`, `x\\"x`, `","`, `":"`, `\u0041`, `\n`, `\/`, `\b`, `\`, "\\\u00e9"} {
		for x := range inEachText(inner) {
			refused(t, api.ErrForm, x)
		}
	}
}

// TestDecodeTellsWhatTextsAreRefusedFor: any bytes are well written, and Check says what it does of them.
func TestDecodeTellsWhatTextsAreRefusedFor(t *testing.T) {
	check := func(inner string) {
		t.Helper()
		for x, e := range inEachText(inner) {
			refused(t, e, x)
		}
	}
	for c := range 256 {
		if c < 0x20 || c > 0x7E {
			b := string([]byte{byte(c)})
			check(b)
			check("a" + b)
			check(b + b + "a")
		}
	}
	check("\u00e9")
	check("\ufffd")
	check("\u2028")
	check("\\\"\n")
	check("\\\\\x00\\\"")
	check(strings.Repeat("\xff", 1<<16))
	// A `\` ahead of `"` and `\` is read, so that names of them are none and values are as they were.
	for _, inner := range []string{`\"`, `\\`, `a\"`, `a\\`, `\\\"`, `\"\\`, `\\n`, `{`, `}`, `[`, `]`, `,`, `:`, ` `, `{}`, `a b`, `a\",\"b`, `a\":\"b`} {
		for x, e := range inEachText(inner) {
			if e == api.ErrArg {
				n, e := decode(t, x)
				if b, err := json.Encode(n); e != api.OK || err != api.OK || string(b) != x {
					t.Errorf("%s: %v, %v", x, n, e)
				}
				continue
			}
			refused(t, e, x)
		}
	}
	refused(t, api.ErrForm, instead(t, wrote(made()), "firing", "fires", "", "Firing", "FIRING", "firing ", `\"firing\"`, "resolved ")...)
	refused(t, api.ErrName, instead(t, wrote(made()), "ops", "", "Ops", "a b", "9", longName+"n")...)
	refused(t, api.ErrName, instead(t, wrote(made()), `"rule":"q"`, `"rule":""`, `"rule":"Q"`, `"rule":"\"q\""`)...)
	refused(t, api.ErrTwice, instead(t, wrote(made()), `"b":"y"`, `"a":"y"`, `"a":"x"`, `"_":"y"`)...)
	refused(t, api.ErrTwice, instead(t, wrote(made()), `"f":"v"`, `"e":"v"`, `"a":""`)...)
	refused(t, api.ErrName, instead(t, wrote(made()), `"b":"y"`, `"":"y"`, `"B":""`, `"\"b\"":"y"`)...)
	refused(t, api.ErrArg, instead(t, wrote(made()), `"c":"z"`, `"c":""`, "\"c\":\"\n\"")...)
	// Keys of as many bytes as may be, however many bytes write them.
	decodes(t, wrote(note(strings.Repeat(`"`, mostKey), "ops", nil, 70)), note(strings.Repeat(`"`, mostKey), "ops", nil, 70))
	refused(t, api.ErrLong, wrote(note(strings.Repeat(`"`, mostKey+1), "ops", nil, 70)))
}

// TestDecodeTellsOfTheFormFirst: faults of Check all over, and one of the form behind them.
func TestDecodeTellsOfTheFormFirst(t *testing.T) {
	seen := -1
	for _, f := range faults() {
		if f.part == seen {
			continue // one of each part is enough
		}
		seen = f.part
		n := made()
		f.change(&n)
		x := wrote(n)
		refused(t, api.ErrForm, x+" ", " "+x, x[:len(x)-1], strings.Replace(x, `"since"`, `"Since"`, 1))
		refused(t, api.ErrForm, strings.TrimSuffix(x, "50}]}")+"050}]}", strings.TrimSuffix(x, "}]}")+",}]}", strings.TrimSuffix(x, "}]}")+"},]}")
	}
	bad := wrote(note("\n", "", make(label.Set, 17), -1, append(items(mostList+1), json.Item{Since: -1})...))
	refused(t, api.ErrArg, bad)
	refused(t, api.ErrForm, bad+"}", bad[:len(bad)-1], strings.Replace(bad, `"at":-1`, `"at":-01`, 1), strings.Replace(bad, `"since":-1`, `"since":9223372036854775808`, 1), strings.Replace(bad, `"":""`, `"":"\n"`, 1), strings.Replace(bad, `"labels":{}`, `"labels":{,}`, 1))
}

// other tells by the library's means what Decode should tell of a text.
func other() func(x string) (json.Note, api.Errno) {
	text := `"(?:[^"\\]|\\["\\])*"`
	number := `(?:0|-?[1-9][0-9]*)`
	pair := text + ":" + text
	set := `\{(?:` + pair + `(?:,` + pair + `)*)?\}`
	thing := `\{"status":(` + text + `),"rule":(` + text + `),"labels":(` + set + `),"since":(` + number + `)\}`
	oneThing := regexp.MustCompile(thing)
	list := `\[(?:` + thing + `(?:,` + thing + `)*)?\]`
	whole := regexp.MustCompile(`^\{"key":(?P<key>` + text + `),"to":(?P<to>` + text + `),"group":(?P<group>` + set + `),"at":(?P<at>` + number + `),"items":(?P<items>` + list + `)\}$`)
	oneText := regexp.MustCompile(text)
	inner := func(s string) string {
		return strings.NewReplacer(`\"`, `"`, `\\`, `\`).Replace(s[1 : len(s)-1])
	}
	labels := func(s string) label.Set {
		var l []string
		for _, x := range oneText.FindAllString(s, -1) {
			l = append(l, inner(x))
		}
		return of(l...)
	}
	return func(x string) (json.Note, api.Errno) {
		parts := whole.FindStringSubmatch(x)
		if parts == nil {
			return json.Note{}, api.ErrForm
		}
		e := api.OK
		integer := func(s string) int64 {
			exact, _ := new(big.Int).SetString(s, 10)
			if !exact.IsInt64() {
				e = api.ErrForm
			}
			return exact.Int64()
		}
		part := func(name string) string { return parts[whole.SubexpIndex(name)] }
		n := note(inner(part("key")), inner(part("to")), labels(part("group")), integer(part("at")))
		for _, i := range oneThing.FindAllStringSubmatch(part("items"), -1) {
			n.Items = append(n.Items, item(inner(i[1]), inner(i[2]), labels(i[3]), integer(i[4])))
		}
		if e == api.OK {
			e = json.Check(n)
		}
		if e != api.OK {
			return json.Note{}, e
		}
		return n, api.OK
	}
}

// asOther sees to it that Decode tells what want does of x, and that of what it takes Encode writes x.
func asOther(t *testing.T, x string, want func(x string) (json.Note, api.Errno)) api.Errno {
	t.Helper()
	n, e := want(x)
	got, err := json.Decode([]byte(x))
	if err != e || !alike(got, n) {
		t.Errorf("%q: %v, %v; want %v, %v", x, got, err, n, e)
	}
	if err == api.OK {
		if b, e := json.Encode(got); e != api.OK || string(b) != x {
			t.Errorf("%q: written again %q, %v", x, b, e)
		}
	}
	return e
}

// TestDecodeOfAllNear holds Decode against the library for all texts that are one byte, or some, off one that is well written.
func TestDecodeOfAllNear(t *testing.T) {
	want, count := other(), map[api.Errno]int{}
	look := func(x string) {
		t.Helper()
		count[asOther(t, x, want)]++
	}
	for _, n := range []json.Note{
		made(),
		note("", "a", nil, 0),
		note(`"\`, "_", of("a", `\"`), 10, item("firing", "r", nil, 0)),
		note(`{}[],:"`, "ops", of("a", `"},`), 1234567890123, item("resolved", "q", of("a", `\`, "b", `"}]}`), most)),
	} {
		x := wrote(n)
		decodes(t, x, n)
		for i := range len(x) + 1 {
			look(x[:i])
			for _, c := range " \",:{}[]\\-+0179ax\n\x00\xff" {
				look(x[:i] + string(c) + x[i:])
				if i < len(x) {
					look(x[:i] + string(c) + x[i+1:])
				}
			}
			for more := 1; more <= 4 && i+more <= len(x); more++ {
				look(x[:i] + x[i+more:])
				look(x[:i+more] + x[i:])
			}
			if i+1 < len(x) {
				look(x[:i] + x[i+1:i+2] + x[i:i+1] + x[i+2:])
			}
		}
	}
	for _, e := range []api.Errno{api.OK, api.ErrForm, api.ErrArg, api.ErrName, api.ErrTwice} {
		if count[e] < 5 {
			t.Errorf("%v: %d texts only", e, count[e])
		}
	}
}

// TestDecodeOfAll holds Decode against the library for all short texts of the bytes that matter in each place.
func TestDecodeOfAll(t *testing.T) {
	want, count := other(), 0
	for _, x := range []struct{ front, behind, bytes string }{
		{`{"key":`, `,"to":"ops","group":{},"at":70,"items":[]}`, `"\x,0`},
		{`{"key":"k","to":"ops","group":`, `,"at":70,"items":[]}`, `{}":,`},
		{`{"key":"k","to":"ops","group":{"a":"x"`, `},"at":70,"items":[]}`, `",:b\`},
		{`{"key":"k","to":"ops","group":{},"at":`, `,"items":[]}`, `-+019`},
		{`{"key":"k","to":"ops","group":{},"at":92233720368547758`, `,"items":[]}`, `-0789`},
		{`{"key":"k","to":"ops","group":{},"at":70,"items":`, `}`, `[]{},`},
		{`{"key":"k","to":"ops","group":{},"at":70,"items":[{"status":"firing","rule":"r","labels":{},"since":6`, `}`, `0}],{`},
	} {
		var look func(middle string, more int)
		look = func(middle string, more int) {
			if asOther(t, x.front+middle+x.behind, want) == api.OK {
				count++
			}
			if more > 0 {
				for _, c := range x.bytes {
					look(middle+string(c), more-1)
				}
			}
		}
		look("", 5)
	}
	if count < 100 {
		t.Errorf("%d texts only", count)
	}
}

// TestEncodedBytesAreNew writes all over an answer, its spare room too: neither what was handed in nor another answer may tell of it.
func TestEncodedBytesAreNew(t *testing.T) {
	n := made()
	first, _ := json.Encode(n)
	second, _ := json.Encode(n)
	over := first[:cap(first)]
	copy(over, bytes.Repeat([]byte("x"), len(over)))
	if string(second) != wrote(made()) || !alike(n, made()) {
		t.Errorf("another answer: %s, the note: %v", second, n)
	}
	encodes(t, n, wrote(made()))
	// And what was handed in may change behind the call.
	n.Group[0].Value, n.Items[0].Rule, n.Items[1].Labels[0].Name = "over", "written", "all"
	if string(second) != wrote(made()) {
		t.Errorf("what is handed in is kept: %s", second)
	}
}

func TestDecodedNotesAreNew(t *testing.T) {
	n := note("k", "ops", many(5), 70, item("firing", "r", many(5), 60), item("firing", "r", many(5), 60), item("resolved", "q", many(3), 50))
	b := []byte(wrote(n))
	first, _ := json.Decode(b)
	second, _ := json.Decode(b)
	copy(b, bytes.Repeat([]byte("x"), len(b)))
	if !alike(first, n) || !alike(second, n) {
		t.Errorf("what is handed in is kept: %v, %v", first, second)
	}
	// One list written all over, its spare room too: no other one tells of it.
	for place := range len(first.Items) + 1 {
		want := plain(first)
		list, wanted := &first.Group, &want.Group
		if place > 0 {
			list, wanted = &first.Items[place-1].Labels, &want.Items[place-1].Labels
		}
		over := (*list)[:cap(*list)]
		copy(over, slices.Repeat(label.Set{spare}, len(over)))
		copy(*wanted, slices.Repeat(label.Set{spare}, len(*wanted)))
		if !alike(first, want) {
			t.Errorf("list %d shares: %v; want %v", place, first, want)
		}
	}
	over := first.Items[:cap(first.Items)]
	copy(over, slices.Repeat([]json.Item{item("over", "written", nil, -1)}, len(over)))
	if !alike(second, n) {
		t.Errorf("another answer: %v", second)
	}
	decodes(t, wrote(n), n)
}

// TestNotesThatCheckDoesNotTake: only that each call ends, panics never and leaves what it is handed.
func TestNotesThatCheckDoesNotTake(t *testing.T) {
	long := strings.Repeat(`"\`, 1<<18)
	for _, n := range []json.Note{
		{},
		note(long, long, of(long, long), math.MinInt64, item(long, long, of(long, long), math.MaxInt64)),
		note("\xff", "\xff", make(label.Set, 1000), -1, make([]json.Item, 20000)...),
		note("k", "ops", nil, 70, item("firing", "r", make(label.Set, 1000), 0)),
	} {
		room, untouched := guarded(t, n)
		if e := json.Check(room); e == api.OK {
			t.Errorf("%.199v: taken", n)
		} else if b, err := json.Encode(room); err != e || len(b) != 0 {
			t.Errorf("%.199v: %.99s, %v; want %v", n, b, err, e)
		}
		if !json.Same(room, n) {
			t.Errorf("%.199v: not the same as itself", n)
		}
		refused(t, json.Check(n), wrote(n))
		untouched("a call")
	}
}
