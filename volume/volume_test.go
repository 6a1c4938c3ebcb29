package volume

import (
	"bytes"
	"crypto/sha256"
	"encoding/binary"
	"encoding/hex"
	"hash/crc32"
	"math"
	"math/big"
	"math/rand"
	"slices"
	"strings"
	"testing"

	"geyser/api"
	"geyser/cut"
	"geyser/encode"
	"geyser/packet"
	"geyser/replay"
	"geyser/row"
	"geyser/solve"
)

func chance(r *rand.Rand, size int) []byte {
	b := make([]byte, size)
	r.Read(b)
	return b
}

// setOf cuts files of these lengths, byte by byte; their names are a, b, and so on.
func setOf(slice int, sizes ...int) (api.Set, [][]byte) {
	r := rand.New(rand.NewSource(int64(slice + len(sizes))))
	var files [][]byte
	for _, size := range sizes {
		files = append(files, chance(r, size))
	}
	return setOfBytes(slice, files...)
}

func setOfBytes(slice int, files ...[]byte) (api.Set, [][]byte) {
	s := api.Set{Slice: slice}
	var sources [][]byte
	for i, b := range files {
		name := string(rune('a' + i))
		s.Files = append(s.Files, api.File{Name: name, Size: len(b), Digest: sha256.Sum256(b), First: len(sources)})
		for k, c := range b {
			if k%slice == 0 {
				sources = append(sources, nil)
			}
			sources[len(sources)-1] = append(sources[len(sources)-1], c)
		}
	}
	for _, b := range sources {
		s.Slices = append(s.Slices, api.Slice{Size: len(b), CRC: crc32.ChecksumIEEE(b), Digest: sha256.Sum256(b)})
	}
	return s, sources
}

// knownSet has files of 3, no and 7 bytes, by slices of two.
func knownSet() (api.Set, [][]byte) {
	s, sources := setOfBytes(2, []byte{1, 2, 3}, nil, []byte("geyser!"))
	s.Files[0].Name, s.Files[1].Name, s.Files[2].Name = "b", "none", "a/c"
	return s, sources
}

// fullSet has as many files, slices and bytes in a slice as there may be.
func fullSet() (api.Set, [][]byte) {
	var files [][]byte
	for i := range 8 {
		b := make([]byte, 2048-i)
		for p := range b {
			b[p] = byte(i*7 + p*p + p/256*3)
		}
		files = append(files, b)
	}
	return setOfBytes(256, files...)
}

// edges are lengths of files that make a set that is formed, by the slice.
var edges = []struct {
	slice int
	sizes []int
}{
	{1, []int{1}}, {1, []int{64}}, {1, []int{8, 8, 8, 8, 8, 8, 8, 8}}, {1, []int{63, 0, 1}}, {2, []int{1}}, {2, []int{2}}, {2, []int{3}},
	{2, []int{128}}, {2, []int{125, 1}}, {3, []int{0, 7, 0, 0, 3, 4, 0}}, {4, []int{9, 3}}, {5, []int{5, 10, 4, 6, 0}}, {7, []int{13, 1, 22}},
	{100, []int{100, 200, 300}}, {255, []int{255, 256, 254}}, {256, []int{1}}, {256, []int{255}}, {256, []int{256}}, {256, []int{257}},
	{256, []int{16384}}, {256, []int{16383}}, {256, []int{0, 16129, 0}}, {13, []int{1, 2, 3, 4, 5, 6, 7, 8}},
}

// noBytes are such of which no file has bytes, so that there is no slice.
var noBytes = []struct {
	slice int
	sizes []int
}{{1, []int{0}}, {256, []int{0}}, {3, []int{0, 0, 0, 0, 0, 0, 0, 0}}}

// wrap makes a packet's bytes of its kind and body.
func wrap(name [8]byte, told []byte) []byte {
	digest := sha256.Sum256(slices.Concat(name[:], told))
	b := binary.BigEndian.AppendUint32([]byte("GYS1"), uint32(48+len(told)))
	return slices.Concat(b, name[:], digest[:], told)
}

// plainDirectory gives the kinds and bodies of a set's directory, written out from chapter 14, and the set's name.
func plainDirectory(s api.Set) (l [][]byte, name [8]byte) {
	whole := binary.BigEndian.AppendUint16([]byte{1}, uint16(s.Slice))
	whole = binary.BigEndian.AppendUint16(append(whole, byte(len(s.Files))), uint16(len(s.Slices)))
	l = append(l, whole)
	for i, f := range s.Files {
		end := len(s.Slices)
		if i+1 < len(s.Files) {
			end = s.Files[i+1].First
		}
		file := append([]byte{2, byte(i), byte(len(f.Name))}, f.Name...)
		file = append(binary.BigEndian.AppendUint32(file, uint32(f.Size)), f.Digest[:]...)
		file = binary.BigEndian.AppendUint16(file, uint16(f.First))
		sums := binary.BigEndian.AppendUint16([]byte{3, byte(i)}, uint16(end-f.First))
		for _, p := range s.Slices[f.First:end] {
			sums = binary.BigEndian.AppendUint16(sums, uint16(p.Size))
			sums = append(binary.BigEndian.AppendUint32(sums, p.CRC), p.Digest[:]...)
		}
		l = append(l, file, sums)
	}
	digest := sha256.Sum256(slices.Concat(l...))
	return l, [8]byte(digest[:8])
}

// plainIndex is Index as it stands in the chapter.
func plainIndex(s api.Set) (b []byte) {
	l, name := plainDirectory(s)
	for _, told := range l {
		b = append(b, wrap(name, told)...)
	}
	return b
}

// plainSymbols are the symbols' packets, one behind the other.
func plainSymbols(s api.Set, sources [][]byte, ids []uint32) (b []byte) {
	_, name := plainDirectory(s)
	for _, id := range ids {
		symbol, _ := encode.Symbol(sources, s.Slice, id)
		b = append(b, wrap(name, slices.Concat(binary.BigEndian.AppendUint32([]byte{4}, id), symbol))...)
	}
	return b
}

// plainMake is Make as it stands in the chapter, of a set that is formed, sources that are its own, and IDs that may be.
func plainMake(s api.Set, sources [][]byte, ids []uint32) []byte {
	return append(plainIndex(s), plainSymbols(s, sources, ids)...)
}

// manyIDs has as many IDs as a call may: small ones, those at the edges, and some from all over.
func manyIDs() []uint32 {
	all := []uint32{math.MaxUint32, math.MaxUint32 - 1, 1 << 31, math.MaxInt32}
	for i := range uint32(30) {
		all = append(all, i, i*2246822519+77)
	}
	return all
}

func checkIndex(t *testing.T, s api.Set, want []byte) {
	t.Helper()
	if b, e := Index(s); e != api.OK || !bytes.Equal(b, want) {
		t.Fatalf("Index of %v: %x, %d, not %x", s, b, e, want)
	}
}

func checkNoIndex(t *testing.T, s api.Set, want api.Errno) {
	t.Helper()
	if b, e := Index(s); e != want || b != nil {
		t.Errorf("Index of %v: %x, %d, not %d", s, b, e, want)
	}
}

func checkMade(t *testing.T, s api.Set, sources [][]byte, ids []uint32, want []byte) {
	t.Helper()
	if b, e := Make(s, sources, ids); e != api.OK || !bytes.Equal(b, want) {
		t.Fatalf("Make of %d slices of %d, IDs %v: %x, %d, not %x", len(s.Slices), s.Slice, ids, b, e, want)
	}
}

func checkNotMade(t *testing.T, s api.Set, sources [][]byte, ids []uint32, want api.Errno) {
	t.Helper()
	if b, e := Make(s, sources, ids); e != want || b != nil {
		t.Errorf("Make of %d slices of %d, %d sources, %d IDs: %x, %d, not %d", len(s.Slices), s.Slice, len(sources), len(ids), b, e, want)
	}
}

func checkRange(t *testing.T, from uint32, count int, want []uint32) {
	t.Helper()
	if l, e := Range(from, count); e != api.OK || !slices.Equal(l, want) {
		t.Fatalf("Range(%d, %d): %v, %d, not %v", from, count, l, e, want)
	}
}

func checkNoRange(t *testing.T, from uint32, count int, want api.Errno) {
	t.Helper()
	if l, e := Range(from, count); e != want || l != nil {
		t.Errorf("Range(%d, %d): %v, %d, not %d", from, count, l, e, want)
	}
}

func TestExample(t *testing.T) {
	checkRange(t, 5, 2, []uint32{5, 6})
}

// unhex reads bytes that another tool worked out.
func unhex(text string) []byte {
	b, err := hex.DecodeString(strings.ReplaceAll(text, " ", ""))
	if err != nil {
		panic(err)
	}
	return b
}

// Bytes that were worked out apart from the program, and of greater volumes their digests.
func TestKnownBytes(t *testing.T) {
	s, sources := setOfBytes(1, []byte{1})
	index := unhex("475953310000003619792f2437d00a096bc9f1eda34ad4101114a0b1d479a9e27910fdeea44075126f6dd20a76d5186d 010001010001" +
		"475953310000005a19792f2437d00a094edfbedfd651f1c66b8ecb07d8c4ee67fb9ee721417504e87812a523649b3dac 02000161000000014b" +
		"f5122f344554c53bde2ebb8cd2b7e3d1600ad631c385a5d7cce23c7785459a0000" +
		"475953310000005a19792f2437d00a09532e35be4a49b92b7db1e466fdf26eabdfe29430a856f7aacf63f87cc09aa057 030000010001a505df1b" +
		"4bf5122f344554c53bde2ebb8cd2b7e3d1600ad631c385a5d7cce23c7785459a")
	symbol := unhex("475953310000003619792f2437d00a091b583165e0a0fd77c61005cfc01d1fd281e7541db87a81a5dadb932230b83be6 040000002efb")
	checkIndex(t, s, index)
	checkMade(t, s, sources, nil, index)
	checkMade(t, s, sources, []uint32{46}, slices.Concat(index, symbol))
	checkMade(t, s, sources, []uint32{46, 46}, slices.Concat(index, symbol, symbol))

	s, _ = setOfBytes(256, nil)
	s.Files[0].Name = "e"
	checkIndex(t, s, unhex("4759533100000036da8c471e3efb89a21305fa6ff3a71fa30b2c620b87406bc31da38c8dd8206e762a1f1a55dd0370b2 010100010000"+
		"475953310000005ada8c471e3efb89a2cf63ad43603477b77c4405ffc8c02942ef35fc43dd3d01e13d763ace33a6c8b1 0200016500000000"+
		"e3b0c44298fc1c149afbf4c8996fb92427ae41e4649b934ca495991b7852b8550000"+
		"4759533100000034da8c471e3efb89a2d710d98352858986a56bcdae3ae63d6e9d6cca2fcaff6caede162fac4f1de5d3 03000000"))
}

func TestKnownDigests(t *testing.T) {
	s, sources := knownSet()
	full, fullSources := fullSet()
	many := make([]uint32, 64)
	for i := range many {
		many[i] = uint32(i)*2246822519 + 77
	}
	for _, c := range []struct {
		s       api.Set
		sources [][]byte
		ids     []uint32
		size    int
		want    string
	}{
		{s, sources, nil, 713, "39e78c1323928a85a4f70e50247cbbb1542ea0341eddd8bd3943cf52786ff788"},
		{s, sources, []uint32{0, 1, math.MaxUint32, 7, 7}, 988, "c662af37ebd20f44bd97eeec11e616d6a5f74592eae484345888608d4db80d58"},
		{full, fullSources, nil, 3622, "d3a48f62b067400368955e6102fb2357af33e8470e06e9de7d791bc8e91c5188"},
		{full, fullSources, many, 23398, "cfba36641380149de44d3df261f2606cabfde7df430a7692bdc56f37f4475685"},
	} {
		b, e := Make(c.s, c.sources, c.ids)
		digest := sha256.Sum256(b)
		if e != api.OK || len(b) != c.size || hex.EncodeToString(digest[:]) != c.want {
			t.Errorf("Make with %d IDs: %d bytes, %x, %d", len(c.ids), len(b), digest, e)
		}
		if len(c.ids) == 0 {
			checkIndex(t, c.s, b)
		}
	}
}

func TestIndex(t *testing.T) {
	for _, c := range append(edges, noBytes...) {
		s, _ := setOf(c.slice, c.sizes...)
		checkIndex(t, s, plainIndex(s))
		// What the digests and CRCs are isn't asked.
		s.Files[0].Digest = [32]byte{9}
		for i := range s.Slices {
			s.Slices[i].CRC, s.Slices[i].Digest = uint32(i), [32]byte{}
		}
		checkIndex(t, s, plainIndex(s))
	}
	for _, name := range []string{"z", "0", "a/b/c", "...", "older", "a.gys/b", strings.Repeat("a", 40)} {
		s, _ := setOf(4, 9, 3)
		s.Files[1].Name = name
		checkIndex(t, s, plainIndex(s))
	}
	s, _ := knownSet()
	checkIndex(t, s, plainIndex(s))
	s, _ = fullSet()
	checkIndex(t, s, plainIndex(s))
}

// The packets of an index are the directory's, and tell the set again.
func TestIndexIsTheDirectory(t *testing.T) {
	for _, c := range append(edges, noBytes...) {
		s, _ := setOf(c.slice, c.sizes...)
		b, e := Index(s)
		if e != api.OK {
			t.Fatal(e)
		}
		l, _ := packet.Directory(s)
		found := packet.Find(b)
		if len(found) != len(l) || len(l) != 1+2*len(s.Files) {
			t.Fatalf("%d packets, not %d", len(found), len(l))
		}
		at := 0
		for i, f := range found {
			one, _ := packet.Encode(l[i])
			again, _ := packet.Encode(f.P)
			if f.At != at || !bytes.Equal(one, again) {
				t.Fatalf("packet %d at %d: %v, not %v", i, f.At, f.P, l[i])
			}
			at += len(one)
		}
		checkJoins(t, b, s)
	}
}

// checkJoins tells whether the packets among the bytes tell the set.
func checkJoins(t *testing.T, b []byte, s api.Set) {
	t.Helper()
	name, _ := packet.Name(s)
	back, e := packet.Join(packetsOf(b), name)
	if e != api.OK || back.Slice != s.Slice || !slices.Equal(back.Files, s.Files) || !slices.Equal(back.Slices, s.Slices) {
		t.Fatalf("Join: %v, %d, not %v", back, e, s)
	}
}

func packetsOf(b []byte) (l []packet.Packet) {
	for _, f := range packet.Find(b) {
		l = append(l, f.P)
	}
	return l
}

// unformed are sets of which one thing each is wrong.
func unformed() (l []api.Set) {
	for _, change := range []func(s *api.Set){
		func(s *api.Set) { *s = api.Set{} },
		func(s *api.Set) { s.Slice = 0 },
		func(s *api.Set) { s.Slice = -2 },
		func(s *api.Set) { s.Slice = 1 },
		func(s *api.Set) { s.Slice = 3 },
		func(s *api.Set) { s.Slice = 257 },
		func(s *api.Set) { s.Slice = math.MinInt },
		func(s *api.Set) { s.Files = nil },
		func(s *api.Set) { s.Files = s.Files[:2] },
		func(s *api.Set) { s.Files = s.Files[1:] },
		func(s *api.Set) { s.Files[0].Name = "" },
		func(s *api.Set) { s.Files[2].Name = "../a" },
		func(s *api.Set) { s.Files[2].Name = "b" },
		func(s *api.Set) { s.Files[2].Name = strings.Repeat("a", 300) },
		func(s *api.Set) { s.Files[0].Size = 2 },
		func(s *api.Set) { s.Files[2].Size = 9 },
		func(s *api.Set) { s.Files[2].Size = math.MaxInt },
		func(s *api.Set) { s.Files[1].Size = -1 },
		func(s *api.Set) { s.Files[1].Size = math.MinInt },
		func(s *api.Set) { s.Files[0].First = 1 },
		func(s *api.Set) { s.Files[1].First = -1 },
		func(s *api.Set) { s.Files[2].First = math.MaxInt },
		func(s *api.Set) { s.Slices[0].Size = 1 },
		func(s *api.Set) { s.Slices[5].Size = 2 },
		func(s *api.Set) { s.Slices[3].Size = math.MinInt },
		func(s *api.Set) { s.Slices = s.Slices[:5] },
		func(s *api.Set) { s.Slices = nil },
		func(s *api.Set) { s.Slices = append(s.Slices, s.Slices[0]) },
	} {
		s, _ := knownSet()
		change(&s)
		l = append(l, s)
	}
	for _, c := range []struct {
		slice int
		sizes []int
	}{{1, []int{65}}, {256, []int{16385}}, {257, []int{300}}, {2, nil}, {3, []int{1, 1, 1, 1, 1, 1, 1, 1, 1}}} {
		s, _ := setOf(c.slice, c.sizes...)
		l = append(l, s)
	}
	return l
}

// A set that isn't formed: whatever is given beside it, also what would be another error.
func TestUnformed(t *testing.T) {
	_, sources := knownSet()
	for _, s := range unformed() {
		checkNoIndex(t, s, api.ErrArg)
		for _, ids := range [][]uint32{nil, {0}, manyIDs(), make([]uint32, 65)} {
			checkNotMade(t, s, sources, ids, api.ErrArg)
			checkNotMade(t, s, nil, ids, api.ErrArg)
			checkNotMade(t, s, make([][]byte, 65), ids, api.ErrArg)
		}
	}
}

func TestMake(t *testing.T) {
	for _, c := range edges {
		s, sources := setOf(c.slice, c.sizes...)
		for _, ids := range [][]uint32{nil, {}, {0}, {math.MaxUint32}, {7, 7, 7}, {9, 3, 1 << 31, 4}, manyIDs()} {
			checkMade(t, s, sources, ids, plainMake(s, sources, ids))
		}
	}
	r := rand.New(rand.NewSource(1))
	for range 300 {
		slice := 1 + r.Intn(256)>>r.Intn(8)
		left := api.MaxSlices
		var sizes []int
		for range 1 + r.Intn(api.MaxFiles) {
			size := r.Intn(left*slice + 1)
			left -= (size + slice - 1) / slice
			sizes = append(sizes, size)
		}
		s, sources := setOf(slice, sizes...)
		ids := make([]uint32, r.Intn(65)>>r.Intn(6))
		for i := range ids {
			ids[i] = r.Uint32() >> r.Intn(32)
		}
		if len(sources) > 0 {
			checkMade(t, s, sources, ids, plainMake(s, sources, ids))
		}
	}
}

// Symbols are as long as the set's slices, also where no source is.
func TestSymbolsAreAsLongAsSlices(t *testing.T) {
	for slice := 1; slice <= 256; slice++ {
		s, sources := setOf(slice, 1)
		b, e := Make(s, sources, []uint32{5})
		if e != api.OK {
			t.Fatal(e)
		}
		l := packetsOf(b)
		p := l[len(l)-1]
		want := make([]byte, slice)
		symbol, _ := encode.Symbol(sources, 1, 5)
		copy(want, symbol)
		if len(l) != 4 || p.Kind != 4 || p.ID != 5 || !bytes.Equal(p.Data, want) {
			t.Fatalf("slices of %d: %v", slice, l)
		}
	}
}

// What layer 16 cuts can be given as it is.
func TestMakeOfCut(t *testing.T) {
	s, sources, e := cut.Make([]cut.Input{{Name: "b", B: []byte{1, 2, 3}}, {Name: "none"}, {Name: "a/c", B: []byte("geyser!")}}, 2)
	if e != api.OK {
		t.Fatal(e)
	}
	checkIndex(t, s, plainIndex(s))
	checkMade(t, s, sources, manyIDs(), plainMake(s, sources, manyIDs()))
	checkJoins(t, plainMake(s, sources, manyIDs()), s)
}

// Sources that aren't as many as slices.
func TestNotAsMany(t *testing.T) {
	for _, c := range edges {
		s, sources := setOf(c.slice, c.sizes...)
		for _, ids := range [][]uint32{nil, {1, 2}, make([]uint32, 65)} {
			for i := range sources {
				checkNotMade(t, s, sources[:i], ids, api.ErrArg)
				checkNotMade(t, s, sources[i+1:], ids, api.ErrArg)
				checkNotMade(t, s, slices.Delete(slices.Clone(sources), i, i+1), ids, api.ErrArg)
			}
			checkNotMade(t, s, nil, ids, api.ErrArg)
			for _, more := range [][]byte{nil, {}, {1}, sources[0], make([]byte, 300)} {
				checkNotMade(t, s, append(slices.Clone(sources), more), ids, api.ErrArg)
			}
			checkNotMade(t, s, slices.Repeat(sources, 80), ids, api.ErrArg)
		}
	}
}

// One source that isn't as long as its slice: shorter, filled up, or with what stands behind it.
func TestNotAsLong(t *testing.T) {
	r := rand.New(rand.NewSource(2))
	for _, c := range edges {
		s, sources := setOf(c.slice, c.sizes...)
		for i, whole := range sources {
			var wrong [][]byte
			for _, size := range []int{0, len(whole) / 2, len(whole) - 1} {
				wrong = append(wrong, whole[:size], whole[:size:size], whole[len(whole)-size:])
			}
			wrong = append(wrong, nil, append(slices.Clone(whole), 0), append(slices.Clone(whole), whole...),
				append([]byte{0}, whole...), append(slices.Clone(whole), chance(r, 1000)...))
			for _, b := range wrong {
				sources[i] = b
				checkNotMade(t, s, sources, []uint32{1}, api.ErrArg)
				checkNotMade(t, s, sources, nil, api.ErrArg)
			}
			sources[i] = whole
			checkMade(t, s, sources, []uint32{1}, plainMake(s, sources, []uint32{1}))
		}
	}
}

// Sources that are filled up to the length of slices, as they are brought back, aren't as long as their own.
func TestFilledUp(t *testing.T) {
	s, sources := knownSet()
	for i, b := range sources {
		sources[i] = append(b, make([]byte, 2-len(b))...)
	}
	checkNotMade(t, s, sources, nil, api.ErrArg)
	checkNotMade(t, s, sources, []uint32{0}, api.ErrArg)
}

// Each bit another one.
func TestEachBitAnother(t *testing.T) {
	for _, c := range edges {
		s, sources := setOf(c.slice, c.sizes...)
		for _, b := range sources {
			for k := range b {
				if len(sources)*len(b) > 500 && k%29 != 0 {
					continue
				}
				b[k] ^= 1 << (k % 8)
				checkNotMade(t, s, sources, nil, api.ErrArg)
				b[k] ^= 1 << (k % 8)
			}
		}
		checkMade(t, s, sources, nil, plainIndex(s))
	}
}

// The CRC is asked, and the digest is, each alone.
func TestOtherSums(t *testing.T) {
	s, sources := knownSet()
	for i := range s.Slices {
		p := &s.Slices[i]
		right := *p
		for bit := range 32 {
			p.CRC ^= 1 << bit
			checkNotMade(t, s, sources, []uint32{1}, api.ErrArg)
			p.CRC ^= 1 << bit
			p.Digest[bit] ^= 1 << (bit % 8)
			checkNotMade(t, s, sources, []uint32{1}, api.ErrArg)
			p.Digest[bit] ^= 1 << (bit % 8)
		}
		sources[i][0]++
		p.CRC = crc32.ChecksumIEEE(sources[i])
		checkNotMade(t, s, sources, []uint32{1}, api.ErrArg)
		p.CRC, p.Digest = right.CRC, sha256.Sum256(sources[i])
		checkNotMade(t, s, sources, []uint32{1}, api.ErrArg)
		p.CRC = crc32.ChecksumIEEE(sources[i])
		checkMade(t, s, sources, []uint32{1}, plainMake(s, sources, []uint32{1}))
		sources[i][0]--
		*p = right
	}
}

// The length is asked too, where CRC and digest are those of a source that is longer or shorter than its slice.
func TestOtherLengths(t *testing.T) {
	s, sources := knownSet()
	for i := range s.Slices {
		right, whole := s.Slices[i], sources[i]
		for _, size := range []int{0, 1, 2, 3, 256, 257, 1000} {
			sources[i] = make([]byte, size)
			copy(sources[i], whole)
			s.Slices[i].CRC, s.Slices[i].Digest = crc32.ChecksumIEEE(sources[i]), sha256.Sum256(sources[i])
			for _, ids := range [][]uint32{nil, {1}, make([]uint32, 65)} {
				if size != len(whole) {
					checkNotMade(t, s, sources, ids, api.ErrArg)
				}
			}
		}
		s.Slices[i], sources[i] = right, whole
	}
	checkMade(t, s, sources, []uint32{1}, plainMake(s, sources, []uint32{1}))
}

// Two sources that stand for each other: only where they are alike it is no fault.
func TestSwapped(t *testing.T) {
	s, sources := setOfBytes(2, []byte("abcdab"), []byte("cdef"))
	for i := range sources {
		for k := range sources {
			swapped := slices.Clone(sources)
			swapped[i], swapped[k] = sources[k], sources[i]
			if bytes.Equal(sources[i], sources[k]) {
				checkMade(t, s, swapped, []uint32{3}, plainMake(s, sources, []uint32{3}))
			} else {
				checkNotMade(t, s, swapped, []uint32{3}, api.ErrArg)
			}
		}
	}
}

// Of files nothing is asked but what a set that is formed has: not their digests.
func TestFilesDigestsAreNotAsked(t *testing.T) {
	s, sources := knownSet()
	for i := range s.Files {
		s.Files[i].Digest = [32]byte{}
	}
	checkMade(t, s, sources, []uint32{1, 2}, plainMake(s, sources, []uint32{1, 2}))
}

func TestTooManyIDs(t *testing.T) {
	s, sources := knownSet()
	for count := range 140 {
		ids := make([]uint32, count)
		for i := range ids {
			ids[i] = uint32(i) * 40503
		}
		if count <= 64 {
			checkMade(t, s, sources, ids, plainMake(s, sources, ids))
		} else {
			checkNotMade(t, s, sources, ids, api.ErrMany)
		}
	}
	checkNotMade(t, s, sources, make([]uint32, 1<<20), api.ErrMany)
}

// A set without slices has an index, but layer 9 makes no symbols of no source: its error comes of no IDs too.
func TestNoSources(t *testing.T) {
	for _, c := range noBytes {
		s, _ := setOf(c.slice, c.sizes...)
		for _, ids := range [][]uint32{nil, {}, {0}, manyIDs(), make([]uint32, 65)} {
			checkNotMade(t, s, nil, ids, api.ErrMany)
			checkNotMade(t, s, [][]byte{}, ids, api.ErrMany)
			checkNotMade(t, s, [][]byte{{}}, ids, api.ErrArg)
			checkNotMade(t, s, [][]byte{nil}, ids, api.ErrArg)
			checkNotMade(t, s, make([][]byte, 65), ids, api.ErrArg)
		}
		checkIndex(t, s, plainIndex(s))
	}
}

// ErrArg of sources goes ahead of ErrMany of IDs.
func TestOrderOfErrors(t *testing.T) {
	s, sources := knownSet()
	ids := make([]uint32, 65)
	checkNotMade(t, s, sources, ids, api.ErrMany)
	checkNotMade(t, s, sources[1:], ids, api.ErrArg)
	sources[5][0]++
	checkNotMade(t, s, sources, ids, api.ErrArg)
	s.Files[0].Name = "A"
	checkNotMade(t, s, sources, ids, api.ErrArg)
}

// Symbols that are made later are those that would have been made at once, in parts of any lengths.
func TestSymbolsInParts(t *testing.T) {
	r := rand.New(rand.NewSource(3))
	for _, c := range edges {
		s, sources := setOf(c.slice, c.sizes...)
		index, _ := Index(s)
		all := manyIDs()
		atOnce, e := Make(s, sources, all)
		if e != api.OK {
			t.Fatal(e)
		}
		parts := slices.Clone(index)
		for from := 0; from < len(all); {
			to := from + 1 + r.Intn(len(all)-from)
			b, e := Make(s, sources, all[from:to])
			if e != api.OK || !bytes.HasPrefix(b, index) {
				t.Fatalf("IDs %d to %d: %d", from, to, e)
			}
			parts = append(parts, b[len(index):]...)
			from = to
		}
		if !bytes.Equal(parts, atOnce) {
			t.Fatalf("%d slices of %d: the parts aren't what is made at once", len(sources), c.slice)
		}
	}
}

// So they are of the IDs that Range tells, and twice made are alike.
func TestSymbolsOfRanges(t *testing.T) {
	s, sources := fullSet()
	index, _ := Index(s)
	for _, from := range []uint32{0, 1, 1000, math.MaxUint32 - 63} {
		all, e := Range(from, 64)
		if e != api.OK {
			t.Fatal(e)
		}
		atOnce, _ := Make(s, sources, all)
		for _, count := range []int{1, 2, 16, 32} {
			parts := slices.Clone(index)
			for i := 0; i < 64; i += count {
				ids, _ := Range(from+uint32(i), count)
				b, _ := Make(s, sources, ids)
				parts = append(parts, b[len(index):]...)
			}
			if !bytes.Equal(parts, atOnce) {
				t.Fatalf("from %d on, %d at a time: the parts aren't what is made at once", from, count)
			}
		}
		checkMade(t, s, sources, all, atOnce)
	}
}

// Volumes that were made one after the other tell the same set, and their symbols alone bring all its slices back.
func TestBroughtBackOfParts(t *testing.T) {
	files := [][]byte{[]byte("files that come back"), nil, []byte("geyser"), bytes.Repeat([]byte("water "), 12)}
	s, sources := setOfBytes(5, files...)
	var eqs [][]api.Cell
	var values [][]byte
	for from := uint32(0); from < 40; from += 8 {
		ids, _ := Range(from, 8)
		b, e := Make(s, sources, ids)
		if e != api.OK {
			t.Fatal(e)
		}
		checkJoins(t, b, s)
		for _, p := range packetsOf(b)[9:] {
			eqs = append(eqs, row.Cells(row.Of(len(sources), p.ID)))
			values = append(values, p.Data)
		}
	}
	schedule, e := solve.Solve(eqs, len(sources))
	if e != api.OK {
		t.Fatal(e)
	}
	back, e := replay.Play(schedule, values)
	if e != api.OK {
		t.Fatal(e)
	}
	for i, want := range files {
		if b, e := cut.Build(s, back, i); e != api.OK || !bytes.Equal(b, want) {
			t.Errorf("file %d: %q, %d, not %q", i, b, e, want)
		}
	}
}

// plainRange is Range as it stands in the chapter, in numbers without bounds.
func plainRange(from uint32, count int) ([]uint32, api.Errno) {
	greatest := big.NewInt(math.MaxUint32)
	last := new(big.Int).Add(big.NewInt(int64(from)), big.NewInt(int64(count)))
	last.Sub(last, big.NewInt(1))
	if count < 1 || big.NewInt(int64(count)).Cmp(greatest) > 0 || last.Cmp(greatest) > 0 {
		return nil, api.ErrArg
	}
	if count > 64 {
		return nil, api.ErrMany
	}
	var l []uint32
	for range count {
		l = append(l, from)
		from++
	}
	return l, api.OK
}

func checkPlainRange(t *testing.T, from uint32, count int) {
	t.Helper()
	want, e := plainRange(from, count)
	if e == api.OK {
		checkRange(t, from, count, want)
	} else {
		checkNoRange(t, from, count, e)
	}
}

func TestRange(t *testing.T) {
	checkRange(t, 0, 1, []uint32{0})
	checkRange(t, math.MaxUint32, 1, []uint32{4294967295})
	checkRange(t, math.MaxUint32-2, 3, []uint32{4294967293, 4294967294, 4294967295})
	checkRange(t, 1<<31-1, 2, []uint32{2147483647, 2147483648})
	for _, base := range []uint32{0, 1 << 8, 1 << 16, 1 << 31} {
		for by := uint32(0); by < 200; by++ {
			for count := -2; count <= 130; count++ {
				checkPlainRange(t, base+by, count)
				checkPlainRange(t, base-by, count)
			}
		}
	}
}

func TestRangeByChance(t *testing.T) {
	r := rand.New(rand.NewSource(4))
	for range 100000 {
		checkPlainRange(t, r.Uint32(), r.Intn(66))
		checkPlainRange(t, -(r.Uint32() >> r.Intn(32)), int(r.Uint64()>>r.Intn(64)))
	}
}

func TestRangeWrongCounts(t *testing.T) {
	for _, from := range []uint32{0, 1, 5, 1 << 31, math.MaxUint32 - 63, math.MaxUint32 - 1, math.MaxUint32} {
		for _, count := range []int{0, -1, -2, -64, -65, -1 << 31, -1 << 32, -1<<32 + 1, math.MinInt, math.MinInt + 1, 1 << 32, 1<<32 + 1,
			1<<32 + 2, 1<<33 + 1, 1<<62 + 1, math.MaxInt, math.MaxInt - 1} {
			checkNoRange(t, from, count, api.ErrArg)
		}
	}
}

func TestRangeOfTooMany(t *testing.T) {
	for _, from := range []uint32{0, 1, 5, 1 << 16, 1 << 31} {
		for _, count := range []int{65, 66, 128, 255, 256, 257, 1 << 16, 1 << 20, 1 << 31} {
			checkNoRange(t, from, count, api.ErrMany)
		}
	}
	checkNoRange(t, 0, math.MaxUint32, api.ErrMany)
	checkNoRange(t, 1, math.MaxUint32, api.ErrMany)
}

// IDs beyond the greatest one: they don't go on from 0, and ErrArg goes ahead of ErrMany.
func TestRangeBeyond(t *testing.T) {
	for count := 1; count <= 64; count++ {
		from := uint32(math.MaxUint32 - count + 1)
		if l, e := Range(from, count); e != api.OK || len(l) != count || l[count-1] != math.MaxUint32 {
			t.Errorf("Range(%d, %d): %v, %d", from, count, l, e)
		}
		checkNoRange(t, from, count+1, api.ErrArg)
		checkNoRange(t, from, 65, api.ErrArg)
		checkNoRange(t, from, 1000, api.ErrArg)
	}
	checkNoRange(t, math.MaxUint32-64, 65, api.ErrMany)
	checkNoRange(t, 2, math.MaxUint32, api.ErrArg)
	checkNoRange(t, 1<<31, 1<<31+1, api.ErrArg)
}

// roomy gives the list with spare room behind it, which is filled.
func roomy[T any](l []T, fill T) []T {
	c := append(slices.Clone(l), fill, fill, fill)
	return c[:len(l)]
}

// spare gives what stands in the room that roomy made.
func spare[T any](l []T) []T { return l[len(l) : len(l)+3] }

// What is given is left as it is, its spare room too, and isn't kept.
func TestArgumentsAreLeft(t *testing.T) {
	for _, c := range edges {
		plain, pieces := setOf(c.slice, c.sizes...)
		wantIndex, want := plainIndex(plain), plainMake(plain, pieces, manyIDs()[:20])
		s := api.Set{Slice: plain.Slice, Files: roomy(plain.Files, api.File{Size: 9}), Slices: roomy(plain.Slices, api.Slice{Size: 9})}
		sources, ids := roomy(pieces, []byte("spare")), roomy(manyIDs()[:20], 99)
		for i := range sources {
			sources[i] = roomy(sources[i], 9)
		}
		index, e := Index(s)
		b, f := Make(s, sources, ids)
		if e != api.OK || f != api.OK || !slices.Equal(s.Files, plain.Files) || !slices.Equal(s.Slices, plain.Slices) ||
			!slices.EqualFunc(sources, pieces, bytes.Equal) || !slices.Equal(ids, manyIDs()[:20]) {
			t.Fatalf("what was given is changed, %d, %d", e, f)
		}
		for i := range 3 {
			if spare(s.Files)[i].Size != 9 || spare(s.Slices)[i].Size != 9 || string(spare(sources)[i]) != "spare" || spare(ids)[i] != 99 {
				t.Fatal("spare room is changed")
			}
		}
		for _, p := range sources {
			if string(spare(p)) != "\t\t\t" {
				t.Fatal("a source's spare room is changed")
			}
			clear(p[:cap(p)])
		}
		clear(s.Files[:cap(s.Files)])
		clear(s.Slices[:cap(s.Slices)])
		clear(sources[:cap(sources)])
		clear(ids[:cap(ids)])
		if !bytes.Equal(index, wantIndex) || !bytes.Equal(b, want) {
			t.Fatal("what is answered changes with what was given")
		}
	}
}

// spoil writes over all of a list's members, its spare room's too.
func spoil[T any](l []T, by T) {
	l = l[:cap(l)]
	for i := range l {
		l[i] = by
	}
}

func TestAnswersAreNew(t *testing.T) {
	for _, c := range edges {
		s, sources := setOf(c.slice, c.sizes...)
		wantIndex, want := plainIndex(s), plainMake(s, sources, manyIDs())
		for range 3 {
			index, _ := Index(s)
			b, _ := Make(s, sources, manyIDs())
			none, _ := Make(s, sources, nil)
			ids, _ := Range(7, 3)
			other, _ := Range(7, 3)
			spoil(ids, 200)
			if !slices.Equal(other, []uint32{7, 8, 9}) {
				t.Fatal("two ranges share memory")
			}
			spoil(index, 200)
			spoil(none, 200)
			if !bytes.Equal(b, want) {
				t.Fatal("two answers share memory")
			}
			spoil(b, 200)
			checkIndex(t, s, wantIndex)
			checkMade(t, s, sources, manyIDs(), want)
			checkMade(t, s, sources, nil, wantIndex)
		}
	}
}

// One list that is given several times is read each time.
func TestSharedArguments(t *testing.T) {
	s, sources := setOfBytes(2, []byte("abababab"))
	shared := slices.Repeat([][]byte{[]byte("ab")}, 4)
	checkMade(t, s, shared, []uint32{1, 2, 3}, plainMake(s, sources, []uint32{1, 2, 3}))
	long := []byte("abcdef")
	s, sources = setOfBytes(3, []byte("abcdef"))
	checkMade(t, s, [][]byte{long[:3], long[3:]}, []uint32{4}, plainMake(s, sources, []uint32{4}))
}

// Nothing is kept from call to call.
func TestCallsAreByThemselves(t *testing.T) {
	s, sources := knownSet()
	full, fullSources := fullSet()
	for range 3 {
		checkNoIndex(t, api.Set{}, api.ErrArg)
		checkIndex(t, s, plainIndex(s))
		checkNotMade(t, s, nil, []uint32{1}, api.ErrArg)
		checkMade(t, s, sources, []uint32{1}, plainMake(s, sources, []uint32{1}))
		checkMade(t, full, fullSources, manyIDs(), plainMake(full, fullSources, manyIDs()))
		checkNotMade(t, full, fullSources, make([]uint32, 65), api.ErrMany)
		checkMade(t, s, sources, nil, plainIndex(s))
		checkNoRange(t, 5, 0, api.ErrArg)
		checkRange(t, 5, 2, []uint32{5, 6})
		checkNoRange(t, 5, 65, api.ErrMany)
	}
}

// The zero values of all that can be given.
func TestZero(t *testing.T) {
	checkNoIndex(t, api.Set{}, api.ErrArg)
	checkNoIndex(t, api.Set{Slice: 1}, api.ErrArg)
	checkNoIndex(t, api.Set{Slice: 1, Files: []api.File{{}}}, api.ErrArg)
	checkNotMade(t, api.Set{}, nil, nil, api.ErrArg)
	checkNotMade(t, api.Set{}, [][]byte{nil}, []uint32{0}, api.ErrArg)
	checkNoRange(t, 0, 0, api.ErrArg)
}

// The calls are of the kinds that the chapter lists.
func TestKinds(t *testing.T) {
	var (
		_ func(api.Set) ([]byte, api.Errno)                     = Index
		_ func(api.Set, [][]byte, []uint32) ([]byte, api.Errno) = Make
		_ func(uint32, int) ([]uint32, api.Errno)               = Range
	)
}
