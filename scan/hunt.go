package scan

import (
	"bytes"

	"geyser/api"
	"geyser/sum"
)

// hunt looks for the slices of one length.
type hunt struct {
	known  []api.Slice
	size   int
	roller *sum.Roller
	// open has the CRCs of which a slice isn't found yet.
	open map[uint32]quarry
}

// quarry is what isn't found yet of one CRC.
type quarry struct {
	// indexes are the slices'.
	indexes []int
	// refused has the last bytes of that CRC that another digest was seen of: where the same ones stand many times,
	// one behind the other, that digest isn't worked out again.
	refused []byte
}

func newHunt(l []api.Slice, size int) *hunt {
	h := &hunt{known: l, size: size, roller: sum.NewRoller(size), open: map[uint32]quarry{}}
	for i, p := range l {
		if p.Size == size {
			h.open[p.CRC] = quarry{indexes: append(h.open[p.CRC].indexes, i)}
		}
	}
	return h
}

// through looks at every place of all files, in order, till all slices are found.
func (h *hunt) through(s Store, f Found) {
	for i, b := range s.B {
		if len(b) < h.size {
			continue
		}
		crc := sum.CRC(b[:h.size])
		for at := 0; len(h.open) > 0; at++ {
			end := at + h.size
			if q, ok := h.open[crc]; ok && !bytes.Equal(b[at:end], q.refused) {
				h.take(crc, b[at:end], Place{s.Names[i], at}, f)
			}
			if end == len(b) {
				break
			}
			crc = h.roller.Next(crc, b[at], b[end])
		}
	}
}

// take tells in f the slices of that CRC whose digest the window has, too; they aren't open any more.
func (h *hunt) take(crc uint32, window []byte, place Place, f Found) {
	digest := sum.Digest(window)
	q := quarry{refused: window}
	for _, i := range h.open[crc].indexes {
		if h.known[i].Digest != digest {
			q.indexes = append(q.indexes, i)
			continue
		}
		f.Slices[i] = bytes.Clone(window)
		f.Places[i] = place
	}
	h.open[crc] = q
	if len(q.indexes) == 0 {
		delete(h.open, crc)
	}
}
