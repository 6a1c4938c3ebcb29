package packet

import (
	"slices"

	"geyser/api"
	"geyser/codec"
	"geyser/sum"
)

// Encode: a packet's bytes; ErrArg of one that isn't formed.
func Encode(p Packet) ([]byte, api.Errno) {
	if !plain(p) {
		return nil, api.ErrArg
	}
	var told codec.Out
	tell(&told, p)
	b, e := told.End()
	if e != api.OK {
		return nil, api.ErrArg
	}
	digest := check(p.Set, b)
	var all codec.Out
	all.Raw([]byte(mark))
	all.N(int64(head+len(b)), totalSize)
	all.Raw(p.Set[:])
	all.Raw(digest[:])
	all.Raw(b)
	return all.End()
}

// check gives the digest of a packet: of its set's name, and of its kind and body.
func check(name [8]byte, told []byte) [32]byte {
	return sum.Digest(slices.Concat(name[:], told))
}

// plain tells whether a packet's kind is one, and it has nothing of another kind's.
func plain(p Packet) bool {
	switch p.Kind {
	case mainKind:
		p.Slice, p.Files, p.Slices = 0, 0, 0
	case fileKind:
		p.Index, p.File = 0, api.File{}
	case sumsKind:
		p.Index, p.Sums = 0, nil
	case symbolKind:
		if !symbolic(len(p.Data)) {
			return false
		}
		p.ID, p.Data = 0, nil
	default:
		return false
	}
	return blank(p)
}

// blank tells whether no kind's field tells anything.
func blank(p Packet) bool {
	return p.Slice == 0 && p.Files == 0 && p.Slices == 0 && p.Index == 0 && p.File == (api.File{}) &&
		len(p.Sums) == 0 && p.ID == 0 && len(p.Data) == 0
}

// symbolic tells whether a symbol may have so many bytes.
func symbolic(size int) bool { return size >= 1 && size <= api.MaxSlice }

// tell writes a packet's kind and body; a number that doesn't fit spoils the Out.
func tell(o *codec.Out, p Packet) {
	o.N(int64(p.Kind), 1)
	switch p.Kind {
	case mainKind:
		o.N(int64(p.Slice), 2)
		o.N(int64(p.Files), 1)
		o.N(int64(p.Slices), 2)
	case fileKind:
		o.N(int64(p.Index), 1)
		o.Text(p.File.Name)
		o.N(int64(p.File.Size), 4)
		o.Raw(p.File.Digest[:])
		o.N(int64(p.File.First), 2)
	case sumsKind:
		o.N(int64(p.Index), 1)
		o.N(int64(len(p.Sums)), 2)
		for _, s := range p.Sums {
			o.N(int64(s.Size), 2)
			o.N(int64(s.CRC), 4)
			o.Raw(s.Digest[:])
		}
	case symbolKind:
		o.N(int64(p.ID), 4)
		o.Raw(p.Data)
	}
}
