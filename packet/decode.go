package packet

import (
	"bytes"

	"geyser/api"
	"geyser/codec"
)

// Decode: the packet that begins the bytes, and how many of them it has; ErrForm, if none does; ErrSum of one whose digest is another one.
func Decode(b []byte) (Packet, int, api.Errno) {
	total := claimed(b)
	if total == 0 {
		return Packet{}, 0, api.ErrForm
	}
	in := codec.NewIn(b[len(mark)+totalSize : total])
	var p Packet
	var digest [sumSize]byte
	copy(p.Set[:], in.Raw(nameSize))
	copy(digest[:], in.Raw(sumSize))
	if !read(&p, in) {
		return Packet{}, 0, api.ErrForm
	}
	if digest != check(p.Set, b[head:total]) {
		return Packet{}, 0, api.ErrSum
	}
	return p, total, api.OK
}

// Find: all packets among the bytes, from the first place on; none of them begins within another.
func Find(b []byte) []Found {
	var l []Found
	for at := 0; at < len(b); {
		p, size, e := Decode(b[at:])
		if e != api.OK {
			at++
			continue
		}
		l = append(l, Found{At: at, P: p})
		at += size
	}
	return l
}

// claimed gives how many bytes the packet that begins b says it has; 0, if none does, or they aren't there.
func claimed(b []byte) int {
	if len(b) <= head || !bytes.HasPrefix(b, []byte(mark)) {
		return 0
	}
	total := int(codec.NewIn(b[len(mark):head]).N(totalSize))
	if total <= head || total > len(b) {
		return 0
	}
	return total
}

// read takes a packet's kind and body, and tells whether they are there, and nothing else is.
func read(p *Packet, in *codec.In) bool {
	p.Kind = int(in.N(1))
	switch p.Kind {
	case mainKind:
		p.Slice = int(in.N(2))
		p.Files = int(in.N(1))
		p.Slices = int(in.N(2))
	case fileKind:
		p.Index = int(in.N(1))
		p.File.Name = in.Text()
		p.File.Size = int(in.N(4))
		copy(p.File.Digest[:], in.Raw(sumSize))
		p.File.First = int(in.N(2))
	case sumsKind:
		p.Index = int(in.N(1))
		count := int(in.N(2))
		if in.Left() != count*sliceSize {
			return false
		}
		p.Sums = readSums(in, count)
	case symbolKind:
		p.ID = uint32(in.N(4))
		if !symbolic(in.Left()) {
			return false
		}
		p.Data = in.Raw(in.Left())
	default:
		return false
	}
	return in.Done()
}

func readSums(in *codec.In, count int) []api.Slice {
	l := make([]api.Slice, count)
	for i := range l {
		l[i].Size = int(in.N(2))
		l[i].CRC = uint32(in.N(4))
		copy(l[i].Digest[:], in.Raw(sumSize))
	}
	return l
}
