package sum

import "geyser/api"

// Roller moves windows of one size on, a byte at a time. The zero value is of no size, and lets no byte out.
type Roller struct {
	// gone has for each byte what it leaves in the CRC of a window that it has just gone out of.
	gone [256]uint32
}

// NewRoller: a Roller of windows of size bytes, or nil where there are no such windows.
func NewRoller(size int) *Roller {
	if size < 1 || size > api.MaxSlice {
		return nil
	}
	r := &Roller{}
	r.gone[0] = left(0, size)
	for c := 1; c < len(r.gone); c++ {
		low := c & -c
		if c == low {
			r.gone[c] = left(byte(c), size)
			continue
		}
		// What bytes leave differs by sums of what their bits leave, so that nine bytes tell of all.
		r.gone[c] = r.gone[c^low] ^ r.gone[low] ^ r.gone[0]
	}
	return r
}

// Next: the CRC of the window a byte further on.
func (r *Roller) Next(crc uint32, out, in byte) uint32 {
	if r == nil {
		return 0
	}
	return feed(crc^turned, in) ^ turned ^ r.gone[out]
}

// left tells by what a CRC that took a byte and then size more differs from one that began with those size bytes.
// It is the same whatever these are, so that noughts stand for them.
func left(c byte, size int) uint32 {
	diff := feed(turned, c) ^ turned
	for range size {
		diff = feed(diff, 0)
	}
	return diff
}
