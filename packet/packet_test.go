package packet

import (
	"bytes"
	"crypto/sha256"
	"encoding/binary"
	"encoding/hex"
	"hash/crc32"
	"math"
	"math/rand"
	"reflect"
	"slices"
	"strings"
	"testing"

	"geyser/api"
)

// lead is how many bytes stand ahead of a packet's kind: GYS1, how many there are in all, the name, and the digest.
const lead = 4 + 4 + 8 + 32

var someName = [8]byte{1, 2, 3, 4, 5, 6, 7, 8}

// counted is the digest 0, 1, 2, and so on.
func counted() (d [32]byte) {
	for i := range d {
		d[i] = byte(i)
	}
	return d
}

// plainTold is a packet's kind and body, worked out apart from the program.
func plainTold(p Packet) []byte {
	b := []byte{byte(p.Kind)}
	switch p.Kind {
	case 1:
		b = binary.BigEndian.AppendUint16(b, uint16(p.Slice))
		b = append(b, byte(p.Files))
		b = binary.BigEndian.AppendUint16(b, uint16(p.Slices))
	case 2:
		b = append(b, byte(p.Index), byte(len(p.File.Name)))
		b = append(b, p.File.Name...)
		b = binary.BigEndian.AppendUint32(b, uint32(p.File.Size))
		b = append(b, p.File.Digest[:]...)
		b = binary.BigEndian.AppendUint16(b, uint16(p.File.First))
	case 3:
		b = append(b, byte(p.Index))
		b = binary.BigEndian.AppendUint16(b, uint16(len(p.Sums)))
		for _, s := range p.Sums {
			b = binary.BigEndian.AppendUint16(b, uint16(s.Size))
			b = binary.BigEndian.AppendUint32(b, s.CRC)
			b = append(b, s.Digest[:]...)
		}
	case 4:
		b = binary.BigEndian.AppendUint32(b, p.ID)
		b = append(b, p.Data...)
	}
	return b
}

// wrap makes a packet's bytes of its kind and body, whatever they are.
func wrap(name [8]byte, told []byte) []byte {
	digest := sha256.Sum256(append(name[:], told...))
	b := binary.BigEndian.AppendUint32([]byte("GYS1"), uint32(lead+len(told)))
	return append(append(append(b, name[:]...), digest[:]...), told...)
}

func plainBytes(p Packet) []byte { return wrap(p.Set, plainTold(p)) }

// rightBody tells whether the bytes behind a kind are a body of it.
func rightBody(kind byte, b []byte) bool {
	switch kind {
	case 1:
		return len(b) == 5
	case 2:
		return len(b) >= 2 && len(b) == 2+int(b[1])+4+32+2
	case 3:
		return len(b) >= 3 && len(b) == 3+(int(b[1])*256+int(b[2]))*38
	case 4:
		return len(b) >= 5 && len(b) <= 4+256
	}
	return false
}

// plainAnswer is what Decode of the bytes should answer beside the packet.
func plainAnswer(b []byte) (int, api.Errno) {
	if len(b) <= lead || string(b[:4]) != "GYS1" {
		return 0, api.ErrForm
	}
	total := int64(binary.BigEndian.Uint32(b[4:]))
	if total <= lead || total > int64(len(b)) || !rightBody(b[lead], b[lead+1:total]) {
		return 0, api.ErrForm
	}
	digest := sha256.Sum256(slices.Concat(b[8:16], b[lead:total]))
	if !bytes.Equal(digest[:], b[16:lead]) {
		return 0, api.ErrSum
	}
	return int(total), api.OK
}

// bare makes a packet's empty lists nil, as they mean the same.
func bare(p Packet) Packet {
	if len(p.Sums) == 0 {
		p.Sums = nil
	}
	if len(p.Data) == 0 {
		p.Data = nil
	}
	return p
}

func same(p, q Packet) bool { return reflect.DeepEqual(bare(p), bare(q)) }

func sameSets(s, t api.Set) bool {
	return s.Slice == t.Slice && slices.Equal(s.Files, t.Files) && slices.Equal(s.Slices, t.Slices)
}

func chance(r *rand.Rand, size int) []byte {
	b := make([]byte, size)
	r.Read(b)
	return b
}

func anyOf(r *rand.Rand, below int) int { return r.Intn(below) >> r.Intn(17) }

func someSlice(r *rand.Rand) api.Slice {
	return api.Slice{Size: anyOf(r, 1<<16), CRC: r.Uint32(), Digest: [32]byte(chance(r, 32))}
}

// somePacket makes a formed packet by chance.
func somePacket(r *rand.Rand, kind int) Packet {
	p := Packet{Set: [8]byte(chance(r, 8)), Kind: kind}
	switch kind {
	case 1:
		p.Slice, p.Files, p.Slices = anyOf(r, 1<<16), anyOf(r, 256), anyOf(r, 1<<16)
	case 2:
		p.Index = anyOf(r, 256)
		p.File = api.File{Name: string(chance(r, r.Intn(256)>>r.Intn(9))), Size: anyOf(r, 1<<32), Digest: [32]byte(chance(r, 32)),
			First: anyOf(r, 1<<16)}
	case 3:
		p.Index = anyOf(r, 256)
		for range r.Intn(300) >> r.Intn(10) {
			p.Sums = append(p.Sums, someSlice(r))
		}
	case 4:
		p.ID, p.Data = r.Uint32(), chance(r, 1+r.Intn(256)>>r.Intn(9))
	}
	return p
}

func somePackets(r *rand.Rand, count int) []Packet {
	l := make([]Packet, count)
	for i := range l {
		l[i] = somePacket(r, 1+r.Intn(4))
	}
	return l
}

// setOf cuts files of these lengths, by a rule written apart from the program; their names are a, b, and so on.
func setOf(slice int, sizes ...int) api.Set {
	s := api.Set{Slice: slice}
	r := rand.New(rand.NewSource(int64(slice)))
	for i, size := range sizes {
		b := chance(r, size)
		s.Files = append(s.Files, api.File{Name: string(rune('a' + i)), Size: size, Digest: sha256.Sum256(b), First: len(s.Slices)})
		for len(b) > 0 {
			n := min(slice, len(b))
			s.Slices = append(s.Slices, api.Slice{Size: n, CRC: crc32.ChecksumIEEE(b[:n]), Digest: sha256.Sum256(b[:n])})
			b = b[n:]
		}
	}
	return s
}

// knownSet has a file of the bytes 1, 2, 3, and one of none, by slices of two bytes.
func knownSet() api.Set {
	piece := func(b ...byte) api.Slice {
		return api.Slice{Size: len(b), CRC: crc32.ChecksumIEEE(b), Digest: sha256.Sum256(b)}
	}
	return api.Set{Slice: 2,
		Files: []api.File{{Name: "a", Size: 3, Digest: sha256.Sum256([]byte{1, 2, 3}), First: 0},
			{Name: "b", Size: 0, Digest: sha256.Sum256(nil), First: 2}},
		Slices: []api.Slice{piece(1, 2), piece(3)}}
}

func clone(s api.Set) api.Set {
	s.Files, s.Slices = slices.Clone(s.Files), slices.Clone(s.Slices)
	return s
}

// formedSets are sets that are formed, those at the edges among them.
func formedSets() []api.Set {
	full := setOf(256, 16384)
	l := []api.Set{knownSet(), full, setOf(256, 16383), setOf(256, 16129), setOf(1, 1), setOf(1, 64), setOf(2, 1), setOf(2, 2),
		setOf(2, 3), setOf(256, 1), setOf(256, 255), setOf(256, 256), setOf(256, 257), setOf(1, 0), setOf(256, 0),
		setOf(3, 0, 0, 0, 0, 0, 0, 0, 0), setOf(3, 8, 8, 8, 8, 8, 8, 8, 8), setOf(1, 8, 8, 8, 8, 8, 8, 8, 8),
		setOf(1, 0, 64, 0), setOf(5, 0, 7, 0, 0, 5, 4, 0), setOf(100, 100, 200, 300), setOf(7, 13, 1, 22),
		setOf(255, 255, 256, 254), setOf(9, 80, 0, 3)}
	for _, name := range []string{"z", "0", "a/b/c", "...", "older", "a/old", "a.gys/b", "_-.", strings.Repeat("a", 40)} {
		s := setOf(4, 9, 3)
		s.Files[1].Name = name
		l = append(l, s)
	}
	// What the digests and CRCs are isn't asked.
	s := setOf(4, 9, 3)
	s.Files[0].Digest, s.Slices[1].Digest, s.Slices[2].CRC = [32]byte{}, [32]byte{}, 0
	return append(l, s, shuffled())
}

// shuffled is a set whose names don't rise, and whose slices are alike.
func shuffled() api.Set {
	s := setOf(2, 2, 2, 4)
	s.Files[0].Name, s.Files[2].Name = "z", "-"
	for i := range s.Slices {
		s.Slices[i] = s.Slices[0]
	}
	return s
}

// unformedSets are sets of which one thing each is wrong.
func unformedSets() []api.Set {
	l := []api.Set{{}, {Slice: 1}, {Slice: 256}, setOf(3), setOf(1, 65), setOf(256, 16385), setOf(256, 16384, 1), setOf(1, 60, 0, 5),
		setOf(3, 0, 0, 0, 0, 0, 0, 0, 0, 0), setOf(1, 1, 2, 3, 4, 5, 6, 7, 8, 9), setOf(257, 300), setOf(512, 300), setOf(257, 0)}
	but := func(s api.Set, change func(s *api.Set)) {
		s = clone(s)
		change(&s)
		l = append(l, s)
	}
	base := setOf(4, 9, 0, 3, 4)
	for _, slice := range []int{0, -1, -4, 1, 3, 5, 8, 257, 260, math.MaxInt, math.MinInt, 1<<32 + 4, 1<<16 + 4} {
		but(base, func(s *api.Set) { s.Slice = slice })
		but(setOf(4, 0), func(s *api.Set) {
			if s.Slice = slice; slice >= 1 && slice <= 256 {
				s.Slice = 0
			}
		})
	}
	for _, name := range []string{"", "A", "a b", "/a", "a/", "a//b", ".", "..", "a/..", "../a", "old", "tmp/a", "old/a", "x.gys", ".gys",
		"é", "a\x00", strings.Repeat("a", 41), strings.Repeat("a", 256), "b", "c", "d"} {
		but(base, func(s *api.Set) { s.Files[0].Name = name })
	}
	but(base, func(s *api.Set) { s.Files[3].Name = "a" })
	but(base, func(s *api.Set) { s.Files[1].Name = "c" })
	for i, f := range base.Files {
		for _, size := range []int{-1, -4, f.Size + 1, f.Size - 1, f.Size + 4, f.Size + 8, math.MaxInt, math.MinInt, math.MaxInt - 2,
			1<<32 + f.Size, -f.Size - 1, 17000} {
			but(base, func(s *api.Set) { s.Files[i].Size = size })
		}
		for _, first := range []int{f.First + 1, f.First - 1, -1, f.First + 4, 1<<16 + f.First, 1<<32 + f.First, math.MaxInt, math.MinInt} {
			but(base, func(s *api.Set) { s.Files[i].First = first })
		}
	}
	for i, p := range base.Slices {
		for _, size := range []int{p.Size - 1, p.Size + 1, 0, -p.Size, 1<<16 + p.Size, math.MaxInt, math.MinInt} {
			but(base, func(s *api.Set) { s.Slices[i].Size = size })
		}
		but(base, func(s *api.Set) { s.Slices = slices.Delete(s.Slices, i, i+1) })
		but(base, func(s *api.Set) { s.Slices = slices.Insert(s.Slices, i, p) })
	}
	but(base, func(s *api.Set) { s.Slices = nil })
	but(base, func(s *api.Set) { s.Files = nil })
	but(base, func(s *api.Set) { s.Slices = append(s.Slices, api.Slice{}) })
	but(base, func(s *api.Set) { s.Files = s.Files[:3] })
	but(base, func(s *api.Set) { s.Files = s.Files[1:] })
	but(base, func(s *api.Set) { s.Files[0], s.Files[2] = s.Files[2], s.Files[0] })
	but(setOf(256, 16384), func(s *api.Set) { s.Slices = append(s.Slices, s.Slices[0]) })
	but(setOf(1, 3), func(s *api.Set) { s.Files[0].Size = -1; s.Slices = nil })
	but(setOf(1, 64), func(s *api.Set) { s.Slices = s.Slices[:63] })
	but(knownSet(), func(s *api.Set) { s.Files[1].First = 0 })
	// Lengths whose slices, taken together, come to a number beyond all others, and round again to few.
	but(setOf(1, 1, 0, 0), func(s *api.Set) { s.Files[1].Size, s.Files[2].Size = math.MaxInt, math.MaxInt })
	but(setOf(1, 0, 0, 0), func(s *api.Set) {
		s.Files[0].Size, s.Files[1].Size, s.Files[2].Size = math.MaxInt, math.MaxInt, 2
		s.Files[1].First, s.Files[2].First = math.MaxInt, -2
	})
	return l
}

func TestExample(t *testing.T) {
	for _, b := range [][]byte{nil, {}} {
		if p, n, e := Decode(b); !same(p, Packet{}) || n != 0 || e != api.ErrForm {
			t.Errorf("%v, %d, %d", p, n, e)
		}
	}
}

// knownPackets are packets and their bytes, whose digests were worked out by another program.
func knownPackets() (l []Packet, all [][]byte) {
	l = []Packet{
		{Set: someName, Kind: 1, Slice: 0x0102, Files: 3, Slices: 0x0405},
		{Set: someName, Kind: 2, Index: 7, File: api.File{Name: "a/b", Size: 0x01020304, Digest: counted(), First: 0x0506}},
		{Set: someName, Kind: 3, Index: 9, Sums: []api.Slice{{Size: 0x0102, CRC: 0x03040506, Digest: counted()}, {CRC: 0xffffffff}}},
		{Set: someName, Kind: 4, ID: 0xfffefdfc, Data: []byte("xyz")},
	}
	for _, s := range []string{
		"4759533100000036010203040506070894c80813105af871e47ff23a5bca76a2c49e1aeb0f75af6cd4d7aa992c2cba7c010102030405",
		"475953310000005c0102030405060708b305dba5dbcd0ac2a0995bd003f5c4991d74276ae83e9a5d4da95cfc159d1444" +
			"020703612f6201020304000102030405060708090a0b0c0d0e0f101112131415161718191a1b1c1d1e1f0506",
		"475953310000008001020304050607088fff4c4a774c41f2f25b3ff83436e3aa46be1940001d8c2d4e94b9372d834ce8" +
			"030900020102" + "03040506000102030405060708090a0b0c0d0e0f101112131415161718191a1b1c1d1e1f" +
			"0000ffffffff0000000000000000000000000000000000000000000000000000000000000000",
		"4759533100000038010203040506070815ee018bf8e58ad49d05c30d1e7127fc79fce11c13aefdd99851eab31e4721a604fffefdfc78797a",
	} {
		b, err := hex.DecodeString(s)
		if err != nil {
			panic(err)
		}
		all = append(all, b)
	}
	return l, all
}

func checkEncode(t *testing.T, p Packet, want []byte) {
	t.Helper()
	if b, e := Encode(p); e != api.OK || !bytes.Equal(b, want) {
		t.Fatalf("Encode(%v): %x, %d, not %x", p, b, e, want)
	}
}

func checkDecode(t *testing.T, b []byte, want Packet, size int) {
	t.Helper()
	if p, n, e := Decode(b); e != api.OK || n != size || !same(p, want) {
		t.Fatalf("Decode(%x): %v, %d, %d, not %v", b, p, n, e, want)
	}
}

func checkNotDecoded(t *testing.T, b []byte, want api.Errno) {
	t.Helper()
	if p, n, e := Decode(b); e != want || n != 0 || !reflect.DeepEqual(p, Packet{}) {
		t.Fatalf("Decode(%x): %v, %d, %d, not %d", b, p, n, e, want)
	}
}

func TestKnownPackets(t *testing.T) {
	l, all := knownPackets()
	for i, p := range l {
		checkEncode(t, p, all[i])
		checkDecode(t, all[i], p, len(all[i]))
	}
}

func TestKnownSet(t *testing.T) {
	s := knownSet()
	name, e := Name(s)
	if e != api.OK || hex.EncodeToString(name[:]) != "43d689e9c8bd783d" {
		t.Errorf("%x, %d", name, e)
	}
	l, e := Directory(s)
	if e != api.OK || len(l) != 5 {
		t.Fatalf("%v, %d", l, e)
	}
	var b []byte
	for _, p := range l {
		one, e := Encode(p)
		if e != api.OK {
			t.Fatal(e)
		}
		b = append(b, one...)
	}
	digest := sha256.Sum256(b)
	if len(b) != 414 || hex.EncodeToString(digest[:]) != "cb5cfd5a36bff061e08163daeb9e9764080233d48bc1c25d002d9f5511341451" {
		t.Errorf("%d bytes: %x", len(b), b)
	}
}

func TestFormed(t *testing.T) {
	for i, s := range formedSets() {
		if !Formed(s) {
			t.Errorf("%d: %v isn't formed", i, s)
		}
	}
}

func TestUnformed(t *testing.T) {
	for i, s := range unformedSets() {
		if Formed(s) {
			t.Errorf("%d: %v is formed", i, s)
		}
		if name, e := Name(s); e != api.ErrArg || name != ([8]byte{}) {
			t.Errorf("%d: Name: %x, %d", i, name, e)
		}
		if l, e := Directory(s); e != api.ErrArg || l != nil {
			t.Errorf("%d: Directory: %v, %d", i, l, e)
		}
	}
}

// All lengths by all short slices, held against slices cut by a rule of the test's own.
func TestFormedByLength(t *testing.T) {
	for slice := 1; slice <= 6; slice++ {
		for size := range 14 {
			for other := range 14 {
				s := setOf(slice, size, 2)
				s.Files[0].Size = other
				if Formed(s) != (other == size) {
					t.Fatalf("slices of %d bytes: %d bytes, not %d", slice, other, size)
				}
			}
		}
	}
}

// plainDirectory is a set's directory, worked out apart from the program.
func plainDirectory(s api.Set) []Packet {
	l := []Packet{{Kind: 1, Slice: s.Slice, Files: len(s.Files), Slices: len(s.Slices)}}
	left := s.Slices
	for i, f := range s.Files {
		count := 0
		for n := 0; n < f.Size; n += s.Slice {
			count++
		}
		l = append(l, Packet{Kind: 2, Index: i, File: f}, Packet{Kind: 3, Index: i, Sums: left[:count]})
		left = left[count:]
	}
	var told []byte
	for _, p := range l {
		told = append(told, plainTold(p)...)
	}
	digest := sha256.Sum256(told)
	for i := range l {
		l[i].Set = [8]byte(digest[:8])
	}
	return l
}

func TestDirectory(t *testing.T) {
	for i, s := range formedSets() {
		want := plainDirectory(s)
		l, e := Directory(s)
		if e != api.OK || !slices.EqualFunc(l, want, same) {
			t.Fatalf("%d: %v, %d, not %v", i, l, e, want)
		}
		if name, e := Name(s); e != api.OK || name != want[0].Set {
			t.Fatalf("%d: %x, %d, not %x", i, name, e, want[0].Set)
		}
		for _, p := range l {
			checkEncode(t, p, plainBytes(p))
		}
	}
}

// Whatever of a set is another thing, its name is another one.
func TestNameOfAll(t *testing.T) {
	s := setOf(4, 9, 3)
	names := map[[8]byte]bool{}
	add := func(change func(s *api.Set)) {
		c := clone(s)
		change(&c)
		name, e := Name(c)
		if e != api.OK || names[name] {
			t.Errorf("%x of %v, %d", name, c, e)
		}
		names[name] = true
	}
	add(func(s *api.Set) {})
	add(func(s *api.Set) { s.Files[0].Name = "c" })
	add(func(s *api.Set) { s.Files[1].Name = "c" })
	add(func(s *api.Set) { s.Files[0].Digest[31]++ })
	add(func(s *api.Set) { s.Files[1].Digest[0]++ })
	add(func(s *api.Set) { s.Slices[0].CRC++ })
	add(func(s *api.Set) { s.Slices[3].Digest[31]++ })
	add(func(s *api.Set) { s.Slices[0], s.Slices[1] = s.Slices[1], s.Slices[0] })
	add(func(s *api.Set) { *s = setOf(4, 9, 4) })
	add(func(s *api.Set) { *s = setOf(4, 9, 3, 0) })
	add(func(s *api.Set) { *s = setOf(4, 3, 9) })
	add(func(s *api.Set) { s.Slice = 3; *s = setOf(3, 9, 3) })
}

func TestBackAndForth(t *testing.T) {
	r := rand.New(rand.NewSource(1))
	for i := range 2000 {
		p := somePacket(r, 1+i%4)
		want := plainBytes(p)
		checkEncode(t, p, want)
		checkDecode(t, want, p, len(want))
		checkDecode(t, append(want, chance(r, r.Intn(100))...), p, len(want))
		checkDecode(t, append(want, want...), p, len(want))
	}
}

// edgePackets have the greatest and the least numbers that fit.
func edgePackets() []Packet {
	most := api.File{Name: strings.Repeat("\xff", 255), Size: 1<<32 - 1, Digest: [32]byte(bytes.Repeat([]byte{255}, 32)), First: 1<<16 - 1}
	return []Packet{
		{Kind: 1}, {Kind: 1, Slice: 1<<16 - 1, Files: 255, Slices: 1<<16 - 1}, {Set: someName, Kind: 1, Slice: 256, Files: 8, Slices: 64},
		{Kind: 2}, {Kind: 2, Index: 255, File: most}, {Kind: 2, File: api.File{Name: "../old\x00 Ä.gys"}}, {Kind: 2, File: api.File{Name: "/"}},
		{Kind: 2, File: api.File{Name: "GYS1"}}, {Kind: 3}, {Kind: 3, Sums: []api.Slice{}}, {Kind: 3, Index: 255, Sums: make([]api.Slice, 64)},
		{Kind: 3, Sums: make([]api.Slice, 65)}, {Kind: 3, Sums: make([]api.Slice, 256)}, {Kind: 3, Sums: make([]api.Slice, 1<<16-1)},
		{Kind: 3, Sums: []api.Slice{{Size: 1<<16 - 1, CRC: 1<<32 - 1, Digest: most.Digest}}},
		{Kind: 4, Data: []byte{0}}, {Kind: 4, ID: 1<<32 - 1, Data: bytes.Repeat([]byte{255}, 256)}, {Kind: 4, Data: make([]byte, 255)},
		{Set: [8]byte([]byte("GYS1GYS1")), Kind: 4, ID: 0x47595331, Data: []byte("GYS1GYS1")},
	}
}

func TestEdgePackets(t *testing.T) {
	for _, p := range edgePackets() {
		want := plainBytes(p)
		checkEncode(t, p, want)
		checkDecode(t, want, p, len(want))
	}
}

// unformedPackets have one thing each that doesn't fit, or isn't their kind's.
func unformedPackets() []Packet {
	l := []Packet{{}, {Kind: 1, Slice: 1 << 16}, {Kind: 1, Files: 256}, {Kind: 1, Slices: 1 << 16}, {Kind: 2, Index: 256},
		{Kind: 2, File: api.File{Name: strings.Repeat("a", 256)}}, {Kind: 2, File: api.File{Name: strings.Repeat("a", 1<<16)}},
		{Kind: 2, File: api.File{Size: 1 << 32}}, {Kind: 2, File: api.File{First: 1 << 16}}, {Kind: 3, Index: 256},
		{Kind: 3, Sums: make([]api.Slice, 1<<16)}, {Kind: 3, Sums: make([]api.Slice, 1<<16+1)}, {Kind: 3, Sums: []api.Slice{{Size: 1 << 16}}},
		{Kind: 3, Sums: []api.Slice{{}, {}, {Size: -1}}}, {Kind: 4}, {Kind: 4, ID: 7, Data: []byte{}}, {Kind: 4, Data: make([]byte, 257)},
		{Kind: 4, Data: make([]byte, 512)}, {Kind: 4, Data: make([]byte, 1<<16)}}
	for _, n := range []int{-1, -256, math.MinInt, math.MaxInt, 1 << 32, 1 << 48, 1<<62 + 1} {
		l = append(l, Packet{Kind: 1, Slice: n}, Packet{Kind: 1, Files: n}, Packet{Kind: 1, Slices: n}, Packet{Kind: 2, Index: n},
			Packet{Kind: 2, File: api.File{Size: n}}, Packet{Kind: 2, File: api.File{First: n}}, Packet{Kind: 3, Index: n},
			Packet{Kind: 3, Sums: []api.Slice{{Size: n}}})
	}
	for _, kind := range []int{0, 5, -1, 255, 256, 257, 258, 260, -255, 1<<32 + 1, 1<<8 + 4, math.MinInt + 1, math.MaxInt} {
		l = append(l, Packet{Kind: kind}, Packet{Kind: kind, Slice: 1, Files: 1, Slices: 1}, Packet{Kind: kind, ID: 1, Data: []byte{1}})
	}
	return append(l, strangePackets()...)
}

// strangePackets have something that another kind has.
func strangePackets() (l []Packet) {
	adds := []struct {
		kinds []int
		to    func(p *Packet)
	}{
		{[]int{1}, func(p *Packet) { p.Slice++ }},
		{[]int{1}, func(p *Packet) { p.Slice = -1 }},
		{[]int{1}, func(p *Packet) { p.Files++ }},
		{[]int{1}, func(p *Packet) { p.Slices++ }},
		{[]int{2, 3}, func(p *Packet) { p.Index++ }},
		{[]int{2, 3}, func(p *Packet) { p.Index = math.MinInt }},
		{[]int{2}, func(p *Packet) { p.File.Name = "a" }},
		{[]int{2}, func(p *Packet) { p.File.Size++ }},
		{[]int{2}, func(p *Packet) { p.File.Digest[31]++ }},
		{[]int{2}, func(p *Packet) { p.File.First++ }},
		{[]int{3}, func(p *Packet) { p.Sums = append(p.Sums, api.Slice{}) }},
		{[]int{4}, func(p *Packet) { p.ID++ }},
		{[]int{4}, func(p *Packet) { p.Data = append(p.Data, 0) }},
	}
	for kind := 1; kind <= 4; kind++ {
		for _, add := range adds {
			p := Packet{Set: someName, Kind: kind}
			if kind == 4 {
				p.Data = []byte{1}
			}
			if add.to(&p); !slices.Contains(add.kinds, kind) {
				l = append(l, p)
			}
		}
	}
	return l
}

func TestUnformedPackets(t *testing.T) {
	for _, p := range unformedPackets() {
		if b, e := Encode(p); e != api.ErrArg || b != nil {
			t.Errorf("Encode(%v): %x, %d", p, b, e)
		}
	}
	// Lists of no elements mean the same, whether nil or empty.
	p := Packet{Kind: 1, Slice: 3, Sums: []api.Slice{}, Data: []byte{}}
	checkEncode(t, p, plainBytes(Packet{Kind: 1, Slice: 3}))
}

func TestBrokenOff(t *testing.T) {
	r := rand.New(rand.NewSource(2))
	l := append(somePackets(r, 20), edgePackets()[:12]...)
	for _, p := range l {
		b := plainBytes(p)
		for cut := range b {
			checkNotDecoded(t, b[:cut], api.ErrForm)
		}
		for cut := 1; cut < len(b); cut++ {
			_, want := plainAnswer(b[cut:])
			checkNotDecoded(t, b[cut:], want)
		}
	}
}

// checkAnswer holds Decode against the test's own rules, and what it answers against Encode.
func checkAnswer(t *testing.T, b []byte) {
	t.Helper()
	size, e := plainAnswer(b)
	if e != api.OK {
		checkNotDecoded(t, b, e)
		return
	}
	p, n, e := Decode(b)
	if e != api.OK || n != size {
		t.Fatalf("Decode(%x): %d, %d, not %d", b, n, e, size)
	}
	checkEncode(t, p, b[:size])
}

// Wherever a byte is another one.
func TestEachByteAnother(t *testing.T) {
	r := rand.New(rand.NewSource(3))
	l, _ := knownPackets()
	for _, p := range append(l, somePackets(r, 40)...) {
		b := append(plainBytes(p), chance(r, 300)...)
		for i := range b {
			for _, turn := range []byte{1, 2, 4, 128, 255, byte(1 + r.Intn(255))} {
				b[i] ^= turn
				checkAnswer(t, b)
				b[i] ^= turn
			}
		}
	}
}

// Whatever digest, name, kind or body: the digest is that of the name, the kind and the body, and of nothing else.
func TestDigests(t *testing.T) {
	_, all := knownPackets()
	for _, b := range all {
		for i := range b {
			b = slices.Clone(b)
			b[i]++
			if _, n, e := Decode(b); e == api.OK || n != 0 {
				t.Errorf("byte %d of %x: %d, %d", i, b, n, e)
			}
			if i >= 8 && i < lead {
				checkNotDecoded(t, b, api.ErrSum)
			}
			b[i]--
		}
	}
}

// Bodies of all short lengths behind each kind, with a digest that is right, or isn't: ErrForm goes ahead of ErrSum.
func TestBodiesOfAllLengths(t *testing.T) {
	for kind := range 256 {
		for size := range 100 {
			if kind > 6 && size > 6 {
				continue
			}
			for _, fill := range []byte{0, 1, 2, 59} {
				told := append([]byte{byte(kind)}, bytes.Repeat([]byte{fill}, size)...)
				checkTold(t, told)
				if size > 2 {
					told[2] = 0
					checkTold(t, told)
				}
			}
		}
	}
	for size := range 700 {
		checkTold(t, append([]byte{4}, make([]byte, size)...))
		checkTold(t, append([]byte{3, 0, byte(size / 38 >> 8), byte(size / 38)}, make([]byte, size)...))
		checkTold(t, append([]byte{2, 0, byte(size)}, make([]byte, size)...))
		checkTold(t, append([]byte{2, 0, byte(size - 38)}, make([]byte, size)...))
	}
}

func checkTold(t *testing.T, told []byte) {
	t.Helper()
	b := wrap(someName, told)
	checkAnswer(t, b)
	b[20]++
	checkAnswer(t, b)
	b[20]--
	checkAnswer(t, append(b, 0, 0, 0))
	// How many bytes there are in all is told wrongly.
	for _, total := range []int{0, 1, lead - 1, lead, lead + 1, len(b) - 1, len(b) + 1, len(b) + 3, len(b) + 4, 1<<32 - 1, 1 << 31} {
		binary.BigEndian.PutUint32(b[4:], uint32(total))
		checkAnswer(t, append(slices.Clone(b), 0, 0, 0))
	}
}

func TestBytesByChance(t *testing.T) {
	r := rand.New(rand.NewSource(4))
	for range 3000 {
		b := chance(r, r.Intn(200))
		checkAnswer(t, b)
		copy(b, "GYS1")
		checkAnswer(t, b)
		if len(b) > lead {
			binary.BigEndian.PutUint32(b[4:], uint32(r.Intn(len(b)+2)))
			b[lead] = byte(r.Intn(6))
			checkAnswer(t, b)
		}
	}
}

// plainFind looks for packets as the chapter says, place by place, by the test's own rules.
func plainFind(b []byte) (l []Found) {
	for at := 0; at < len(b); at++ {
		size, e := plainAnswer(b[at:])
		if e != api.OK {
			continue
		}
		p, _, _ := Decode(b[at:])
		l = append(l, Found{At: at, P: p})
		at += size - 1
	}
	return l
}

func sameFound(f, g Found) bool { return f.At == g.At && same(f.P, g.P) }

func checkFind(t *testing.T, b []byte, want []Found) {
	t.Helper()
	if l := Find(b); !slices.EqualFunc(l, want, sameFound) {
		t.Fatalf("Find(%x): %v, not %v", b, l, want)
	}
}

// strewn lays packets among other bytes, and tells where they are.
func strewn(r *rand.Rand, l []Packet) (b []byte, want []Found) {
	for _, p := range l {
		if r.Intn(2) == 0 {
			b = append(b, chance(r, r.Intn(50))...)
		}
		if r.Intn(4) == 0 {
			b = append(b, "GYS1GYS"[:1+r.Intn(7)]...)
		}
		want = append(want, Found{At: len(b), P: p})
		b = append(b, plainBytes(p)...)
	}
	return append(b, chance(r, r.Intn(50))...), want
}

func TestFind(t *testing.T) {
	r := rand.New(rand.NewSource(5))
	for range 200 {
		b, want := strewn(r, somePackets(r, r.Intn(8)))
		checkFind(t, b, want)
	}
	checkFind(t, nil, nil)
	checkFind(t, []byte{}, nil)
	checkFind(t, []byte("GYS1"), nil)
	checkFind(t, bytes.Repeat([]byte("GYS1"), 100), nil)
	checkFind(t, chance(r, 1000), nil)
	for _, p := range edgePackets() {
		b := plainBytes(p)
		checkFind(t, b, []Found{{0, p}})
		checkFind(t, append([]byte("GYS"), b...), []Found{{3, p}})
		checkFind(t, slices.Concat(b, b, b), []Found{{0, p}, {len(b), p}, {2 * len(b), p}})
		checkFind(t, b[:len(b)-1], nil)
		checkFind(t, b[1:], nil)
	}
}

// A packet that lies within another one is told only where the other one doesn't begin.
func TestFindWithin(t *testing.T) {
	inner := Packet{Set: someName, Kind: 4, ID: 5, Data: []byte("within")}
	small := plainBytes(inner)
	outer := Packet{Set: someName, Kind: 4, ID: 6, Data: slices.Concat([]byte("abc"), small, []byte("def"), small)}
	b := plainBytes(outer)
	first, second := lead+1+4+3, lead+1+4+3+len(small)+3
	checkFind(t, b, []Found{{0, outer}})
	checkFind(t, append(b, small...), []Found{{0, outer}, {len(b), inner}})
	for _, i := range []int{0, 3, 5, 7, 8, 16, 47, lead, lead + 1, lead + 5, first - 1, second - 1} {
		broken := slices.Clone(b)
		broken[i]++
		checkFind(t, broken, []Found{{first, inner}, {second, inner}})
	}
	broken := slices.Clone(b)
	broken[first]++
	checkFind(t, broken, []Found{{second, inner}})
	checkFind(t, b[:len(b)-1], []Found{{first, inner}})
	checkFind(t, append(slices.Clone(b[:20]), b...), []Found{{20, outer}})
	checkFind(t, slices.Concat(b[:lead], small, b), []Found{{lead, inner}, {lead + len(small), outer}})
}

// A packet that begins with the last bytes of another one isn't told where that one begins.
func TestFindAcross(t *testing.T) {
	next := Packet{Set: someName, Kind: 4, ID: 5, Data: []byte("next")}
	tail := plainBytes(next)
	for shared := 1; shared <= 8; shared++ {
		one := Packet{Set: someName, Kind: 4, ID: 6, Data: append([]byte("one"), tail[:shared]...)}
		b := plainBytes(one)
		size := len(b)
		b = append(b, tail[shared:]...)
		checkFind(t, b, []Found{{0, one}})
		checkFind(t, append(b, tail...), []Found{{0, one}, {len(b), next}})
		b[9]++
		checkFind(t, b, []Found{{size - shared, next}})
	}
}

func TestFindInDamage(t *testing.T) {
	r := rand.New(rand.NewSource(6))
	for range 300 {
		b, _ := strewn(r, somePackets(r, 6))
		for range 1 + r.Intn(6) {
			switch i := r.Intn(len(b)); r.Intn(3) {
			case 0:
				b[i]++
			case 1:
				b = slices.Delete(b, i, i+1)
			default:
				b = slices.Insert(b, i, byte(r.Intn(256)))
			}
		}
		checkFind(t, b, plainFind(b))
	}
}

func checkJoin(t *testing.T, l []Packet, name [8]byte, want api.Set) {
	t.Helper()
	if s, e := Join(l, name); e != api.OK || !sameSets(s, want) {
		t.Fatalf("Join: %v, %d, not %v", s, e, want)
	}
}

func checkNotJoined(t *testing.T, l []Packet, name [8]byte, want api.Errno) {
	t.Helper()
	if s, e := Join(l, name); e != want || !reflect.DeepEqual(s, api.Set{}) {
		t.Fatalf("Join of %v: %v, %d, not %d", l, s, e, want)
	}
}

func shuffle(r *rand.Rand, l []Packet) []Packet {
	l = slices.Clone(l)
	r.Shuffle(len(l), func(i, k int) { l[i], l[k] = l[k], l[i] })
	return l
}

func TestJoin(t *testing.T) {
	r := rand.New(rand.NewSource(7))
	sets := formedSets()
	var all []Packet
	for _, s := range sets {
		l := plainDirectory(s)
		checkJoin(t, l, l[0].Set, s)
		checkJoin(t, shuffle(r, l), l[0].Set, s)
		checkJoin(t, append(shuffle(r, l), l...), l[0].Set, s)
		all = append(all, l...)
	}
	all = append(all, somePackets(r, 50)...)
	for _, s := range sets {
		name, _ := Name(s)
		checkJoin(t, all, name, s)
		checkJoin(t, shuffle(r, all), name, s)
	}
	checkNotJoined(t, nil, [8]byte{}, api.ErrNone)
	checkNotJoined(t, []Packet{}, someName, api.ErrNone)
	checkNotJoined(t, all, someName, api.ErrNone)
}

// One packet of a directory is missing, or another set's, or of another index or kind; symbols tell nothing of a set.
func TestJoinMissing(t *testing.T) {
	for _, s := range formedSets() {
		l := plainDirectory(s)
		name := l[0].Set
		l = append(l, Packet{Set: name, Kind: 4, ID: 1, Data: []byte{1}}, Packet{Set: name, Kind: 4, Index: 1, Data: []byte{2}})
		checkJoin(t, l, name, s)
		for i := range len(l) - 2 {
			checkNotJoined(t, slices.Delete(slices.Clone(l), i, i+1), name, api.ErrNone)
			for _, change := range []func(p *Packet){func(p *Packet) { p.Set[7]++ }, func(p *Packet) { p.Set[0]++ },
				func(p *Packet) { p.Kind = 4 }, func(p *Packet) { p.Kind = 0 }, func(p *Packet) { p.Kind += 256 },
				func(p *Packet) { p.Index += 256; p.Kind += 3 }} {
				c := slices.Clone(l)
				change(&c[i])
				checkNotJoined(t, c, name, api.ErrNone)
			}
			if l[i].Kind != 1 {
				for _, index := range []int{-1, 8, 9, l[i].Index + 256, l[i].Index + 8, math.MaxInt, math.MinInt} {
					c := slices.Clone(l)
					c[i].Index = index
					checkNotJoined(t, c, name, api.ErrNone)
				}
			}
		}
	}
}

// The first main packet counts, and of each index the first file's and sums' one, be they wrong.
func TestJoinFirst(t *testing.T) {
	s := setOf(4, 9, 0, 3)
	l := plainDirectory(s)
	name := l[0].Set
	wrong := []Packet{
		{Set: name, Kind: 1, Slice: 4, Files: 3, Slices: 5},
		{Set: name, Kind: 2, Index: 2, File: api.File{Name: "x", Size: 3, First: 3}},
		{Set: name, Kind: 3, Index: 0, Sums: []api.Slice{{Size: 4}, {Size: 4}, {Size: 1}}},
	}
	for _, p := range wrong {
		checkNotJoined(t, append([]Packet{p}, l...), name, api.ErrForm)
		checkJoin(t, append(slices.Clone(l), p), name, s)
		p.Set[3]++
		checkJoin(t, append([]Packet{p}, l...), name, s)
	}
	// Fewer files than there are packets of: those of other indexes tell nothing.
	few := Packet{Set: name, Kind: 1, Slice: 4, Files: 2, Slices: 3}
	checkNotJoined(t, append([]Packet{few}, l...), name, api.ErrForm)
	many := Packet{Set: name, Kind: 1, Slice: 4, Files: 4, Slices: 4}
	checkNotJoined(t, append([]Packet{many}, l...), name, api.ErrNone)
	beyond := []Packet{{Set: name, Kind: 2, Index: 3}, {Set: name, Kind: 3, Index: 3}, {Set: name, Kind: 3, Index: 255}, {Set: name, Kind: 2, Index: -1}}
	checkJoin(t, append(beyond, l...), name, s)
}

// Something is wrong, and something is missing too: ErrNone goes ahead of ErrForm.
func TestJoinMissingAndWrong(t *testing.T) {
	l := plainDirectory(setOf(4, 9, 0, 3))
	for i := range l[1:] {
		c := slices.Delete(slices.Clone(l), i+1, i+2)
		c[0].Slice = 0
		checkNotJoined(t, c, l[0].Set, api.ErrNone)
		c[0].Files = 255
		checkNotJoined(t, c, l[0].Set, api.ErrNone)
	}
	for _, files := range []int{4, 8, 9, 255, 256, 1 << 16, 1 << 32, math.MaxInt} {
		c := slices.Clone(l)
		c[0].Files = files
		checkNotJoined(t, c, l[0].Set, api.ErrNone)
	}
	for _, files := range []int{0, 1, 2, -1, math.MinInt} {
		c := slices.Clone(l)
		c[0].Files = files
		checkNotJoined(t, c, l[0].Set, api.ErrForm)
	}
}

// renamed gives the packets the name that their kinds and bodies make.
func renamed(l []Packet) []Packet {
	var told []byte
	for _, p := range l {
		told = append(told, plainTold(p)...)
	}
	digest := sha256.Sum256(told)
	l = slices.Clone(l)
	for i := range l {
		l[i].Set = [8]byte(digest[:8])
	}
	return l
}

// Sets that aren't formed, under the very names that their directories make.
func TestJoinUnformed(t *testing.T) {
	s := setOf(4, 9, 0, 3)
	good := plainDirectory(s)
	for i, change := range []func(l []Packet){
		func(l []Packet) { l[0].Slice = 0 },
		func(l []Packet) { l[0].Slice = 3 },
		func(l []Packet) { l[0].Slice = 257 },
		func(l []Packet) { l[0].Files = 0 },
		func(l []Packet) { l[0].Files = 2 },
		func(l []Packet) { l[0].Slices = 3 },
		func(l []Packet) { l[0].Slices = 5 },
		func(l []Packet) { l[0].Slices = 0 },
		func(l []Packet) { l[0].Slices = 1<<16 + 4 },
		func(l []Packet) { l[1].File.Name = "" },
		func(l []Packet) { l[1].File.Name = "old/a" },
		func(l []Packet) { l[1].File.Name = "b" },
		func(l []Packet) { l[1].File.Name = "A" },
		func(l []Packet) { l[1].File.Size = 8 },
		func(l []Packet) { l[1].File.Size = 13 },
		func(l []Packet) { l[1].File.First = 1 },
		func(l []Packet) { l[5].File.First = 2 },
		func(l []Packet) { l[3].File.Size = 1 },
		func(l []Packet) { l[2].Sums = l[2].Sums[:2] },
		func(l []Packet) { l[4].Sums = l[6].Sums },
		func(l []Packet) { l[2].Sums, l[4].Sums = nil, l[2].Sums },
		func(l []Packet) { l[6].Sums = []api.Slice{{Size: 4}} },
	} {
		l := slices.Clone(good)
		change(l)
		l = renamed(l)
		if checkNotJoined(t, l, l[0].Set, api.ErrForm); i == 0 {
			checkJoin(t, renamed(good), good[0].Set, s)
		}
	}
	for _, s := range []api.Set{setOf(4), setOf(3, 0, 0, 0, 0, 0, 0, 0, 0, 0), setOf(1, 65), setOf(257, 300), setOf(1, 60, 5)} {
		l := plainDirectory(s)
		checkNotJoined(t, l, l[0].Set, api.ErrForm)
	}
}

// Sets that are formed, but make another name than they bear.
func TestJoinOtherName(t *testing.T) {
	for _, s := range formedSets() {
		good := plainDirectory(s)
		for _, at := range []int{0, 3, 7} {
			l := slices.Clone(good)
			for i := range l {
				l[i].Set[at] ^= 128
			}
			checkNotJoined(t, l, l[0].Set, api.ErrForm)
			checkNotJoined(t, l, good[0].Set, api.ErrNone)
		}
		l := slices.Clone(good)
		l[1].File.Digest[31]++
		checkNotJoined(t, l, l[0].Set, api.ErrForm)
	}
	// The digest of nothing at all is no set's name, though a main packet's numbers don't fit.
	nothing := sha256.Sum256(nil)
	l := plainDirectory(setOf(4, 9))
	for i := range l {
		l[i].Set = [8]byte(nothing[:8])
	}
	checkNotJoined(t, l, l[0].Set, api.ErrForm)
	l[0].Slices = 1 << 16
	checkNotJoined(t, l, l[0].Set, api.ErrForm)
}

// All the way: a directory's bytes among others are found, and joined.
func TestThere(t *testing.T) {
	r := rand.New(rand.NewSource(8))
	for _, s := range formedSets() {
		l, _ := Directory(s)
		b := chance(r, 9)
		for _, p := range shuffle(r, l) {
			one, _ := Encode(p)
			b = append(append(b, one...), chance(r, r.Intn(20))...)
		}
		var found []Packet
		for _, f := range Find(b) {
			found = append(found, f.P)
		}
		checkJoin(t, found, l[0].Set, s)
	}
}

// roomy gives the bytes with spare room behind them, which is filled.
func roomy[T any](l []T, fill T) []T {
	c := append(slices.Clone(l), fill, fill, fill)
	return c[:len(l)]
}

// What is handed in is left as it is, its spare room too, and isn't kept; what is answered is new memory.
func TestMemoryOfBytes(t *testing.T) {
	r := rand.New(rand.NewSource(9))
	for _, p := range append(somePackets(r, 40), edgePackets()...) {
		given := bare(p)
		given.Sums, given.Data = roomy(p.Sums, api.Slice{Size: 9}), roomy(p.Data, 9)
		b, e := Encode(given)
		if e != api.OK || !same(given, p) || !slices.Equal(given.Sums[:len(p.Sums)+3][len(p.Sums):], []api.Slice{{Size: 9}, {Size: 9}, {Size: 9}}) ||
			string(given.Data[:len(p.Data)+3][len(p.Data):]) != "\t\t\t" {
			t.Fatalf("%v, %d", given, e)
		}
		clear(given.Sums)
		clear(given.Data)
		want := plainBytes(p)
		if !bytes.Equal(b, want) {
			t.Fatal("what is answered changes with what was given")
		}
		in := roomy(b, 9)
		q, _, _ := Decode(in)
		l := Find(in)
		if !bytes.Equal(in, want) || string(in[:len(in)+3][len(in):]) != "\t\t\t" {
			t.Fatal("what was given is changed")
		}
		clear(in[:cap(in)])
		if !same(q, p) || len(l) != 1 || !same(l[0].P, p) {
			t.Fatal("what is answered changes with what was given")
		}
		clear(q.Sums[:cap(q.Sums)])
		clear(q.Data[:cap(q.Data)])
		if !same(l[0].P, p) {
			t.Fatal("two answers share memory")
		}
	}
}

func TestMemoryOfFound(t *testing.T) {
	r := rand.New(rand.NewSource(10))
	b, want := strewn(r, somePackets(r, 30))
	l := Find(b)
	for i := range l {
		clear(l[i].P.Sums[:cap(l[i].P.Sums)])
		clear(l[i].P.Data[:cap(l[i].P.Data)])
		if i+1 < len(l) && !slices.EqualFunc(l[i+1:], want[i+1:], sameFound) {
			t.Fatal("two packets share memory")
		}
	}
	clear(l[:cap(l)])
	checkFind(t, b, want)
}

func TestMemoryOfSets(t *testing.T) {
	for _, want := range formedSets() {
		s := api.Set{Slice: want.Slice, Files: roomy(want.Files, api.File{Size: 9}), Slices: roomy(want.Slices, api.Slice{Size: 9})}
		Formed(s)
		Name(s)
		l, _ := Directory(s)
		if !sameSets(s, want) || s.Files[:len(s.Files)+1][len(s.Files)].Size != 9 || s.Slices[:len(s.Slices)+1][len(s.Slices)].Size != 9 {
			t.Fatal("what was given is changed")
		}
		clear(s.Files[:cap(s.Files)])
		clear(s.Slices[:cap(s.Slices)])
		directory := plainDirectory(want)
		if !slices.EqualFunc(l, directory, same) {
			t.Fatal("what is answered changes with what was given")
		}
		for i := range l {
			clear(l[i].Sums[:cap(l[i].Sums)])
			if i+1 < len(l) && !slices.EqualFunc(l[i+1:], directory[i+1:], same) {
				t.Fatal("two packets share memory")
			}
		}
	}
}

func TestMemoryOfJoin(t *testing.T) {
	for _, want := range formedSets() {
		l := roomy(plainDirectory(want), Packet{Kind: 9})
		name := l[0].Set
		for i := range l {
			l[i].Sums = roomy(l[i].Sums, api.Slice{Size: 9})
		}
		s, e := Join(l, name)
		if e != api.OK || !slices.EqualFunc(l, plainDirectory(want), same) || l[:len(l)+1][len(l)].Kind != 9 {
			t.Fatal("what was given is changed")
		}
		for i := range l {
			if l[i].Sums[:len(l[i].Sums)+1][len(l[i].Sums)].Size != 9 {
				t.Fatal("spare room is changed")
			}
			clear(l[i].Sums[:cap(l[i].Sums)])
		}
		clear(l)
		if !sameSets(s, want) {
			t.Fatal("what is answered changes with what was given")
		}
	}
}

// The zero values of all that can be given.
func TestZero(t *testing.T) {
	if Formed(api.Set{}) {
		t.Error("Formed")
	}
	if b, e := Encode(Packet{}); b != nil || e != api.ErrArg {
		t.Error("Encode", b, e)
	}
	if l := Find(nil); len(l) != 0 {
		t.Error("Find", l)
	}
	checkNotJoined(t, []Packet{{}}, [8]byte{}, api.ErrNone)
	checkNotJoined(t, []Packet{{Kind: 1}}, [8]byte{}, api.ErrForm)
}

// The calls are of the kinds that the chapter lists.
func TestKinds(t *testing.T) {
	var (
		_ func(api.Set) bool                           = Formed
		_ func(api.Set) ([8]byte, api.Errno)           = Name
		_ func(api.Set) ([]Packet, api.Errno)          = Directory
		_ func(Packet) ([]byte, api.Errno)             = Encode
		_ func([]byte) (Packet, int, api.Errno)        = Decode
		_ func([]byte) []Found                         = Find
		_ func([]Packet, [8]byte) (api.Set, api.Errno) = Join
		_                                              = Packet([]struct {
			Set    [8]byte
			Kind   int
			Slice  int
			Files  int
			Slices int
			Index  int
			File   api.File
			Sums   []api.Slice
			ID     uint32
			Data   []byte
		}{{}}[0])
		_ = Found([]struct {
			At int
			P  Packet
		}{{}}[0])
	)
}
