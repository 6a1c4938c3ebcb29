package packet

import (
	"geyser/api"
)

// part is what of a directory a packet tells.
type part struct {
	kind  int
	index int
}

// Join: the set of that name that the packets tell of; ErrNone, if something of its directory is missing; ErrForm, if what they tell isn't formed, or of another name.
func Join(l []Packet, name [8]byte) (api.Set, api.Errno) {
	first := firsts(l, name)
	at, ok := first[part{kind: mainKind}]
	if !ok {
		return api.Set{}, api.ErrNone
	}
	s := api.Set{Slice: l[at].Slice}
	for i := range l[at].Files {
		file, filed := first[part{fileKind, i}]
		sums, summed := first[part{sumsKind, i}]
		if !filed || !summed {
			return api.Set{}, api.ErrNone
		}
		s.Files = append(s.Files, l[file].File)
		s.Slices = append(s.Slices, l[sums].Sums...)
	}
	// A name is that of bodies: the main packet's has this number too, which the set doesn't keep.
	if l[at].Slices != len(s.Slices) {
		return api.Set{}, api.ErrForm
	}
	own, e := Name(s)
	if e != api.OK || own != name {
		return api.Set{}, api.ErrForm
	}
	return s, api.OK
}

// firsts gives of each part that a set's packets tell where the first one stands.
func firsts(l []Packet, name [8]byte) map[part]int {
	first := map[part]int{}
	for i, p := range l {
		if p.Set != name {
			continue
		}
		of := part{p.Kind, p.Index}
		if p.Kind == mainKind {
			of.index = 0
		}
		if _, ok := first[of]; !ok {
			first[of] = i
		}
	}
	return first
}
