package codec

import (
	"bytes"
	"slices"

	"geyser/api"
)

// Out takes numbers, texts and bytes, one behind the other. The zero value has none yet.
type Out struct {
	last   *piece
	spoilt bool
}

// piece is what one call wrote behind the others. It never changes, so that an Out and a copy of it go on apart.
type piece struct {
	before *piece
	bytes  []byte
}

// N: a number of size bytes, the greatest first; a number or a size that doesn't fit spoils all.
func (o *Out) N(v int64, size int) {
	if !sized(size) || v < 0 || v>>(8*size) != 0 {
		o.spoil()
		return
	}
	b := make([]byte, size)
	for i := range b {
		b[size-1-i] = byte(v >> (8 * i))
	}
	o.put(b)
}

// Text: how long it is, and its bytes; one of more than 255 bytes spoils all, as its length doesn't fit.
func (o *Out) Text(s string) {
	o.N(int64(len(s)), 1)
	o.put([]byte(s))
}

// Raw: the bytes alone.
func (o *Out) Raw(b []byte) { o.put(bytes.Clone(b)) }

// End: all bytes; ErrArg, if something has spoilt them.
func (o *Out) End() ([]byte, api.Errno) {
	if o == nil || o.spoilt {
		return nil, api.ErrArg
	}
	var pieces [][]byte
	for p := o.last; p != nil; p = p.before {
		pieces = append(pieces, p.bytes)
	}
	slices.Reverse(pieces)
	return bytes.Join(pieces, nil), api.OK
}

// put keeps bytes that nobody else has.
func (o *Out) put(b []byte) {
	if o == nil || o.spoilt || len(b) == 0 {
		return
	}
	o.last = &piece{before: o.last, bytes: b}
}

func (o *Out) spoil() {
	if o != nil {
		*o = Out{spoilt: true}
	}
}
