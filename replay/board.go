package replay

import (
	"bytes"

	"geyser/api"
	"geyser/vector"
)

// Board: slots of bytes, all of one length.
type Board struct{ slots [][]byte }

// NewBoard: a board whose slots are the values; ErrArg of values of two lengths.
func NewBoard(values [][]byte) (*Board, api.Errno) {
	b := &Board{slots: make([][]byte, len(values))}
	for i, value := range values {
		if len(value) != len(values[0]) {
			return nil, api.ErrArg
		}
		b.slots[i] = bytes.Clone(value)
	}
	return b, api.OK
}

// Add: to the slot to c times the slot from is added; ErrArg of a slot that isn't there, or of two that are one.
func (b *Board) Add(to, from int, c byte) api.Errno {
	if !b.has(to) || !b.has(from) || to == from {
		return api.ErrArg
	}
	// No error can come: all slots are as long.
	b.slots[to], _ = vector.Axpy(b.slots[to], b.slots[from], c)
	return api.OK
}

// Scale: the slot becomes c times what it was; ErrArg of one that isn't there.
func (b *Board) Scale(to int, c byte) api.Errno {
	if !b.has(to) {
		return api.ErrArg
	}
	b.slots[to] = vector.Scale(b.slots[to], c)
	return api.OK
}

// Slot: its bytes; none of one that isn't there.
func (b *Board) Slot(n int) []byte {
	if !b.has(n) {
		return nil
	}
	return bytes.Clone(b.slots[n])
}

// has tells whether the slot is there; a nil board has none.
func (b *Board) has(n int) bool { return b != nil && n >= 0 && n < len(b.slots) }
