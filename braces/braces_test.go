package braces_test

import (
	"slices"
	"strings"
	"testing"

	"belfry/braces"
)

// The texts of labels (P301) and of matchers (P501) are held by the tests of those packages; here is what neither of them asks for.

// of tells items of names, words and values, one behind the other.
func of(l ...string) []braces.Item {
	var items []braces.Item
	for i := 0; i < len(l); i += 3 {
		items = append(items, braces.Item{Name: l[i], Op: l[i+1], Value: l[i+2]})
	}
	return items
}

func TestTextAndParse(t *testing.T) {
	for _, x := range []struct {
		s     string
		ops   []string
		items []braces.Item
	}{
		{`{}`, nil, nil},
		{`{}`, []string{"="}, nil},
		{`{a="x"}`, []string{"="}, of("a", "=", "x")},
		{`{a=""}`, []string{"="}, of("a", "=", "")},
		{`{="x",="x"}`, []string{"="}, of("", "=", "x", "", "=", "x")},
		{`{a!="\"\\"}`, []string{"="}, of("a!", "=", `"\`)},
		{`{a<"x",b<="y"}`, []string{"<", "<="}, of("a", "<", "x", "b", "<=", "y")},
		{`{a<"x",b<="y"}`, []string{"<=", "<"}, of("a", "<", "x", "b", "<=", "y")},
		{`{a<=>"x"}`, []string{"<", "<=>", "<="}, of("a", "<=>", "x")},
		{"{\xff: \"\n\x00\"}", []string{": "}, of("\xff", ": ", "\n\x00")},
	} {
		if got := braces.Text(slices.Values(x.items)); got != x.s {
			t.Errorf("%q: %s; want %s", x.items, got, x.s)
		}
		if got, ok := braces.Parse(x.s, x.ops...); !ok || !slices.Equal(got, x.items) {
			t.Errorf("%s, %q: %q, %v; want %q", x.s, x.ops, got, ok, x.items)
		}
	}
}

func TestParseRefuses(t *testing.T) {
	for _, x := range []struct {
		s   string
		ops []string
	}{
		{`{a="x"}`, nil},
		{`{a="x"}`, []string{""}},
		{`{a="x"}`, []string{"!"}},
		{`{a="x"}`, []string{"=="}},
		{`{a<"x"}`, []string{"<=", "="}}, // the first byte of one ends the name
		{`{a<b="x"}`, []string{"<=", "="}},
		{`{a<="x"}`, []string{"<", "="}},
		{`{a="x",b<"y"}`, []string{"="}},
		{`{a"x"}`, []string{`"=`}},
		{`{a="x"`, []string{"="}},
		{``, []string{"="}},
		{strings.Repeat("{", 1<<20), []string{"=", "!="}},
	} {
		if got, ok := braces.Parse(x.s, x.ops...); ok || len(got) != 0 {
			t.Errorf("%.99s, %q: %q, %v; want none", x.s, x.ops, got, ok)
		}
	}
}
