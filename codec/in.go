package codec

import "bytes"

// In gives back what an Out took. The zero value has no bytes.
type In struct {
	left []byte
	bad  bool
}

// NewIn: an In of the bytes.
func NewIn(b []byte) *In { return &In{left: bytes.Clone(b)} }

// N: the number of the next size bytes; 0, if they aren't there, or of a size that isn't 1 to 6.
func (i *In) N(size int) int64 {
	if !sized(size) {
		i.fail()
		return 0
	}
	var v int64
	for _, c := range i.take(size) {
		v = v<<8 | int64(c)
	}
	return v
}

// Text: the next text; "", if it isn't there.
func (i *In) Text() string { return string(i.take(int(i.N(1)))) }

// Raw: the next n bytes; none, if they aren't there.
func (i *In) Raw(n int) []byte { return bytes.Clone(i.take(n)) }

// Left: how many bytes are left.
func (i *In) Left() int {
	if i == nil {
		return 0
	}
	return len(i.left)
}

// Bad: whether something that was asked for wasn't there.
func (i *In) Bad() bool { return i != nil && i.bad }

// Done: whether no byte is left, and all that was asked for was there.
func (i *In) Done() bool { return i != nil && !i.bad && len(i.left) == 0 }

// take gives the next n bytes, in the In's own memory; none, if they aren't there.
func (i *In) take(n int) []byte {
	if i == nil {
		return nil
	}
	if n < 0 || n > len(i.left) {
		i.fail()
		return nil
	}
	b := i.left[:n]
	i.left = i.left[n:]
	return b
}

// fail makes it bad; a bad one has nothing left to give.
func (i *In) fail() {
	if i != nil {
		*i = In{bad: true}
	}
}
