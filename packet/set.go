package packet

import (
	"slices"

	"geyser/api"
	"geyser/codec"
	"geyser/rule"
	"geyser/sum"
)

// Formed: whether a set is as a directory may tell of one.
func Formed(s api.Set) bool {
	if s.Slice < 1 || s.Slice > api.MaxSlice || len(s.Slices) > api.MaxSlices {
		return false
	}
	if len(s.Files) < 1 || len(s.Files) > api.MaxFiles {
		return false
	}
	first := 0
	for i, f := range s.Files {
		if f.Size < 0 || f.First != first || !rule.Name(f.Name) || has(s.Files[:i], f.Name) {
			return false
		}
		count := rule.Count(f.Size, s.Slice)
		if count > len(s.Slices)-first || !cut(s.Slices[first:first+count], f.Size, s.Slice) {
			return false
		}
		first += count
	}
	return first == len(s.Slices)
}

// Name: the name of a set, which its directory makes; ErrArg of one that isn't formed.
func Name(s api.Set) ([8]byte, api.Errno) {
	l, e := Directory(s)
	if e != api.OK {
		return [8]byte{}, e
	}
	return l[0].Set, api.OK
}

// Directory: the packets that tell all of a set; ErrArg of one that isn't formed.
func Directory(s api.Set) ([]Packet, api.Errno) {
	if !Formed(s) {
		return nil, api.ErrArg
	}
	l := []Packet{{Kind: mainKind, Slice: s.Slice, Files: len(s.Files), Slices: len(s.Slices)}}
	for i, f := range s.Files {
		end := f.First + rule.Count(f.Size, s.Slice)
		l = append(l, Packet{Kind: fileKind, Index: i, File: f},
			Packet{Kind: sumsKind, Index: i, Sums: slices.Clone(s.Slices[f.First:end])})
	}
	name := named(l)
	for i := range l {
		l[i].Set = name
	}
	return l, api.OK
}

// has tells whether one of the files has the name.
func has(files []api.File, name string) bool {
	return slices.ContainsFunc(files, func(f api.File) bool { return f.Name == name })
}

// cut tells whether a file's slices, which are as many as they should be, are as long too.
func cut(l []api.Slice, size, slice int) bool {
	for i, p := range l {
		if p.Size != min(slice, size-i*slice) {
			return false
		}
	}
	return true
}

// named gives the name of the set of a directory.
func named(directory []Packet) [8]byte {
	var all codec.Out
	for _, p := range directory {
		tell(&all, p)
	}
	b, _ := all.End()
	digest := sum.Digest(b)
	return [nameSize]byte(digest[:nameSize])
}
