package line

import (
	"strconv"
	"strings"

	"belfry/api"
	"belfry/label"
	"belfry/words"
)

// numbers are those of a sample, all of 64 bits, as a text may tell a source that no int holds.
type numbers struct{ value, time, src, seq int64 }

// word is one of the numbers, and what stands ahead of it in a line.
type word struct {
	mark   string
	number *int64
}

// numbersOf tells the numbers of s.
func numbersOf(s Sample) numbers { return numbers{s.Value, s.Time, int64(s.Src), s.Seq} }

// words goes through all words behind the labels of a line, in their order there.
func (n *numbers) words(yield func(word) bool) {
	for _, w := range [...]word{
		{" ", &n.value},
		{" @", &n.time},
		{" #", &n.src},
		{"/", &n.seq},
	} {
		if !yield(w) {
			return
		}
	}
}

// Text tells s as `{name="value",..} VALUE @TIME #SRC/SEQ`.
func Text(s Sample) string {
	text, n := []byte(label.Text(s.Labels)), numbersOf(s)
	for w := range n.words {
		text = strconv.AppendInt(append(text, w.mark...), *w.number, 10)
	}
	return string(text)
}

// Parse tells the sample that Text wrote as s; ErrForm: it wrote none so; what Check says of it.
func Parse(s string) (Sample, api.Errno) {
	// Values may hold all that stands between words, but no word holds what labels end with.
	end := strings.LastIndexByte(s, '}') + 1
	n, ok := parseNumbers(s[end:])
	if !ok {
		return Sample{}, api.ErrForm
	}
	labels, e := label.Parse(s[:end])
	if e == api.OK {
		e = check(labels, n)
	}
	if e != api.OK {
		return Sample{}, e
	}
	return Sample{labels, n.value, n.time, int(n.src), n.seq}, api.OK
}

// parseNumbers tells the numbers that Text wrote as s behind labels; false: it wrote none so.
func parseNumbers(s string) (numbers, bool) {
	var n numbers
	for w := range n.words {
		behind, begun := strings.CutPrefix(s, w.mark)
		number, rest, ok := words.TakeNumber(behind)
		if !begun || !ok {
			return numbers{}, false
		}
		*w.number, s = number, rest
	}
	return n, s == ""
}
