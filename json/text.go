package json

import (
	"iter"
	"slices"

	"belfry/api"
	"belfry/label"
)

// Encode tells n as `{"key":..,"to":..,"group":{..},"at":..,"items":[..]}`; what Check says of it.
func Encode(n Note) ([]byte, api.Errno) {
	if e := Check(n); e != api.OK {
		return nil, e
	}
	return write(nil, noteParts(&n)), api.OK
}

// Decode tells the note that Encode wrote as b; ErrForm: it wrote none so; what Check says of it.
func Decode(b []byte) (Note, api.Errno) {
	var n Note
	r := reader{string(b)}
	if !r.read(noteParts(&n)) || r.rest != "" {
		return Note{}, api.ErrForm
	}
	if e := Check(n); e != api.OK {
		return Note{}, e
	}
	return n, api.OK
}

// noteParts goes through all that n is written of.
func noteParts(n *Note) iter.Seq[part] {
	return slices.Values([]part{
		mark(`{"key":`), (*text)(&n.Key),
		mark(`,"to":`), (*text)(&n.To),
		mark(`,"group":`), labels(&n.Group),
		mark(`,"at":`), (*number)(&n.At),
		mark(`,"items":`), list[Item]{&n.Items, "[]", itemParts},
		mark(`}`),
	})
}

// itemParts goes through all that i is written of.
func itemParts(i *Item) iter.Seq[part] {
	return slices.Values([]part{
		mark(`{"status":`), (*text)(&i.Status),
		mark(`,"rule":`), (*text)(&i.Rule),
		mark(`,"labels":`), labels(&i.Labels),
		mark(`,"since":`), (*number)(&i.Since),
		mark(`}`),
	})
}

// labels tells s as a part.
func labels(s *label.Set) part {
	return list[label.Label]{(*[]label.Label)(s), "{}", labelParts}
}

// labelParts goes through all that l is written of.
func labelParts(l *label.Label) iter.Seq[part] {
	return slices.Values([]part{(*text)(&l.Name), mark(`:`), (*text)(&l.Value)})
}
