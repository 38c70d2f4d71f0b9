package journal

import (
	"bytes"
	"iter"

	"belfry/api"
)

const (
	maxData = 1<<16 - 1 // all that two bytes tell the length of
	head    = 3         // the length, and the kind
	around  = head + 1  // and the kind once more
)

// Encode tells the bytes of r: the length of Data in two, the lowest first, Kind, Data, and Kind once more.
// ErrLong: Data has more than 65535 bytes; ErrArg: Kind is 0.
func Encode(r Record) ([]byte, api.Errno) {
	n := len(r.Data)
	switch {
	case n > maxData:
		return nil, api.ErrLong
	case r.Kind == 0:
		return nil, api.ErrArg
	}
	b := make([]byte, 0, around+n)
	b = append(b, byte(n), byte(n>>8), r.Kind)
	b = append(b, r.Data...)
	return append(b, r.Kind), api.OK
}

// Scan tells the records from the front of b on, as many as are whole and right, and how many bytes they take.
func Scan(b []byte) ([]Record, int) {
	var rs []Record
	taken := 0
	for r, end := range records(b) {
		rs, taken = append(rs, r), end
	}
	return rs, taken
}

// records goes through those from the front of b on, as far as they are whole and right, and tells where each ends.
func records(b []byte) iter.Seq2[Record, int] {
	return func(yield func(Record, int) bool) {
		at := 0
		for {
			r, ok := first(b[at:])
			if !ok {
				return
			}
			at += around + len(r.Data)
			if !yield(r, at) {
				return
			}
		}
	}
}

// first tells the record at the front of b, as new memory; false: none there is whole and right.
func first(b []byte) (Record, bool) {
	if len(b) < around {
		return Record{}, false
	}
	n, kind := int(b[0])|int(b[1])<<8, b[2]
	if n > len(b)-around || kind == 0 || b[head+n] != kind {
		return Record{}, false
	}
	return Record{kind, bytes.Clone(b[head : head+n])}, true
}
