package cut

import (
	"bytes"
	"crypto/sha256"
	"encoding/hex"
	"hash/crc32"
	"math"
	"math/rand"
	"reflect"
	"slices"
	"strings"
	"testing"

	"geyser/api"
	"geyser/packet"
)

func chance(r *rand.Rand, size int) []byte {
	b := make([]byte, size)
	r.Read(b)
	return b
}

// letters gives the i-th of names that may be.
func letters(i int) string { return string(rune('a' + i)) }

// filesOf makes files of these lengths, by chance; their names are a, b, and so on.
func filesOf(r *rand.Rand, sizes ...int) []Input {
	var l []Input
	for i, size := range sizes {
		l = append(l, Input{letters(i), chance(r, size)})
	}
	return l
}

// plainMake cuts files byte by byte, apart from the program.
func plainMake(l []Input, slice int) (api.Set, [][]byte) {
	s := api.Set{Slice: slice}
	var sources [][]byte
	for _, f := range l {
		s.Files = append(s.Files, api.File{Name: f.Name, Size: len(f.B), Digest: sha256.Sum256(f.B), First: len(sources)})
		for i, c := range f.B {
			if i%slice == 0 {
				sources = append(sources, nil)
			}
			sources[len(sources)-1] = append(sources[len(sources)-1], c)
		}
	}
	for _, b := range sources {
		s.Slices = append(s.Slices, api.Slice{Size: len(b), CRC: crc32.ChecksumIEEE(b), Digest: sha256.Sum256(b)})
	}
	return s, sources
}

func sameSets(s, t api.Set) bool {
	return s.Slice == t.Slice && slices.Equal(s.Files, t.Files) && slices.Equal(s.Slices, t.Slices)
}

func sameLists(l, m [][]byte) bool { return slices.EqualFunc(l, m, bytes.Equal) }

func cloneSet(s api.Set) api.Set {
	s.Files, s.Slices = slices.Clone(s.Files), slices.Clone(s.Slices)
	return s
}

func cloneLists(l [][]byte) [][]byte {
	l = slices.Clone(l)
	for i := range l {
		l[i] = slices.Clone(l[i])
	}
	return l
}

func checkMade(t *testing.T, l []Input, slice int) {
	t.Helper()
	want, pieces := plainMake(l, slice)
	s, sources, e := Make(l, slice)
	if e != api.OK || !sameSets(s, want) || !sameLists(sources, pieces) {
		t.Fatalf("Make(%v, %d): %v, %v, %d, not %v, %v", l, slice, s, sources, e, want, pieces)
	}
}

func checkNotMade(t *testing.T, l []Input, slice int, want api.Errno) {
	t.Helper()
	if s, sources, e := Make(l, slice); e != want || !reflect.DeepEqual(s, api.Set{}) || sources != nil {
		t.Errorf("Make of %d files by %d: %v, %v, %d, not %d", len(l), slice, s, sources, e, want)
	}
}

func checkBuilt(t *testing.T, s api.Set, sources [][]byte, file int, want []byte) {
	t.Helper()
	if b, e := Build(s, sources, file); e != api.OK || !bytes.Equal(b, want) {
		t.Fatalf("Build of %d: %x, %d, not %x", file, b, e, want)
	}
}

func checkNotBuilt(t *testing.T, s api.Set, sources [][]byte, file int, want api.Errno) {
	t.Helper()
	if b, e := Build(s, sources, file); e != want || b != nil {
		t.Errorf("Build of %d: %x, %d, not %d", file, b, e, want)
	}
}

// edges are lengths of files that may be cut by the slice.
var edges = []struct {
	slice int
	sizes []int
}{
	{1, []int{0}}, {1, []int{1}}, {1, []int{64}}, {1, []int{8, 8, 8, 8, 8, 8, 8, 8}}, {1, []int{63, 0, 1}}, {2, []int{1}}, {2, []int{2}},
	{2, []int{3}}, {2, []int{5}}, {2, []int{128}}, {2, []int{127}}, {2, []int{125, 1}}, {3, []int{0, 0, 0, 0, 0, 0, 0, 0}},
	{3, []int{0, 7, 0, 0, 3, 4, 0}}, {4, []int{9, 3}}, {5, []int{5, 10, 4, 6, 0}}, {7, []int{13, 1, 22}}, {100, []int{100, 200, 300}},
	{255, []int{255, 256, 254}}, {256, []int{0}}, {256, []int{1}}, {256, []int{255}}, {256, []int{256}}, {256, []int{257}},
	{256, []int{16384}}, {256, []int{16383}}, {256, []int{16129}}, {256, []int{0, 16384, 0}},
	{256, []int{2048, 2048, 2048, 2048, 2048, 2048, 2048, 2048}}, {256, []int{1793, 1793, 1793, 1793, 1793, 1793, 1793, 1793}},
	{255, []int{16320}}, {13, []int{1, 2, 3, 4, 5, 6, 7, 8}},
}

func TestExample(t *testing.T) {
	if n := Count(5, 2); n != 3 {
		t.Errorf("5 bytes by 2: %d", n)
	}
}

func TestCount(t *testing.T) {
	for slice := 1; slice <= 256; slice++ {
		count, left := 0, 0
		for size := range 2000 {
			if Count(size, slice) != count {
				t.Fatalf("Count(%d, %d): %d, not %d", size, slice, Count(size, slice), count)
			}
			if left == 0 {
				count, left = count+1, slice
			}
			left--
		}
	}
	for _, c := range []struct{ size, slice, want int }{{1, 256, 1}, {256, 256, 1}, {257, 256, 2}, {16384, 256, 64}, {16385, 256, 65},
		{1<<31 - 1, 1, 1<<31 - 1}, {1<<31 - 1, 2, 1 << 30}, {1<<31 - 1, 256, 1 << 23}, {1 << 31, 256, 1 << 23}, {math.MaxInt, 1, math.MaxInt},
		{math.MaxInt, 2, 1 << 62}, {math.MaxInt, 256, 1 << 55}, {math.MaxInt - 1, 2, 1<<62 - 1}} {
		if n := Count(c.size, c.slice); n != c.want {
			t.Errorf("Count(%d, %d): %d, not %d", c.size, c.slice, n, c.want)
		}
	}
}

// wrongSlices are below 1 or above MaxSlice.
var wrongSlices = []int{0, -1, -2, -256, 257, 258, 512, 1 << 16, 1<<16 + 4, 1 << 32, 1<<32 + 4, math.MaxInt, math.MaxInt - 1, math.MinInt,
	math.MinInt + 1}

func TestCountWrong(t *testing.T) {
	for _, size := range []int{0, -1, -2, -5, -256, -257, math.MinInt, math.MinInt + 1} {
		for slice := 1; slice <= 256; slice++ {
			if n := Count(size, slice); n != 0 {
				t.Errorf("Count(%d, %d): %d", size, slice, n)
			}
		}
	}
	for _, slice := range wrongSlices {
		for _, size := range []int{1, 2, 5, 256, 1000, math.MaxInt, 0, -1, -5, math.MinInt} {
			if n := Count(size, slice); n != 0 {
				t.Errorf("Count(%d, %d): %d", size, slice, n)
			}
		}
	}
}

// digestOf reads a digest that another tool worked out.
func digestOf(text string) [32]byte {
	b, err := hex.DecodeString(text)
	if err != nil {
		panic(err)
	}
	return [32]byte(b)
}

// knownFiles are files of 3, no and 7 bytes, with the set that they make by slices of two bytes.
func knownFiles() ([]Input, api.Set, [][]byte) {
	l := []Input{{"b", []byte{1, 2, 3}}, {"none", nil}, {"a/c", []byte("geyser!")}}
	s := api.Set{
		Slice: 2,
		Files: []api.File{
			{Name: "b", Size: 3, Digest: digestOf("039058c6f2c0cb492c533b0a4d14ef77cc0f78abccced5287d84a1a2011cfb81"), First: 0},
			{Name: "none", Size: 0, Digest: digestOf("e3b0c44298fc1c149afbf4c8996fb92427ae41e4649b934ca495991b7852b855"), First: 2},
			{Name: "a/c", Size: 7, Digest: digestOf("d68ec26e01130469b91f00907047854ef49d546b5e460d1aec69eb81998e6a5a"), First: 2},
		},
		Slices: []api.Slice{
			{Size: 2, CRC: 0xb6cc4292, Digest: digestOf("a12871fee210fb8619291eaea194581cbd2531e4b23759d225f6806923f63222")},
			{Size: 1, CRC: 0x4b0bbe37, Digest: digestOf("084fed08b978af4d7d196a7446a86b58009e636b611db16211b65a9aadff29c5")},
			{Size: 2, CRC: 0x56bd7a48, Digest: digestOf("309d20864f274b097f64106ec08fde76b42486d4e2f7165c7a9a233533dd8fc3")},
			{Size: 2, CRC: 0x7628f0c6, Digest: digestOf("4bfc28283b1bceeb97d97f505a52d2213b35cc42b0832da991d4c15a1fe9be57")},
			{Size: 2, CRC: 0xe7589d0d, Digest: digestOf("cc7e4412564ba8a761bd32ab4cc6086bac3c2c9e580367e0b0eb32a4316f9154")},
			{Size: 1, CRC: 0x9e6bffd3, Digest: digestOf("bb7208bc9b5d7c04f1236a82a0093a5e33f40423d5ba8d4266f7092c3ba43b62")},
		},
	}
	return l, s, [][]byte{{1, 2}, {3}, []byte("ge"), []byte("ys"), []byte("er"), []byte("!")}
}

func TestKnown(t *testing.T) {
	l, want, pieces := knownFiles()
	s, sources, e := Make(l, 2)
	if e != api.OK || !sameSets(s, want) || !sameLists(sources, pieces) {
		t.Errorf("Make: %v, %q, %d", s, sources, e)
	}
	for i, f := range l {
		checkBuilt(t, want, pieces, i, f.B)
	}
}

func TestMake(t *testing.T) {
	r := rand.New(rand.NewSource(1))
	for _, c := range edges {
		checkMade(t, filesOf(r, c.sizes...), c.slice)
	}
	for range 2000 {
		slice := 1 + r.Intn(256)>>r.Intn(8)
		left := api.MaxSlices
		var sizes []int
		for range 1 + r.Intn(api.MaxFiles) {
			size := r.Intn(left*slice + 1)
			left -= (size + slice - 1) / slice
			sizes = append(sizes, size)
		}
		checkMade(t, filesOf(r, sizes...), slice)
	}
}

// Of one file and of two, all short lengths by all short slices.
func TestMakeOfAllShort(t *testing.T) {
	r := rand.New(rand.NewSource(2))
	for slice := 1; slice <= 9; slice++ {
		for size := range 20 {
			checkMade(t, filesOf(r, size), slice)
			checkMade(t, filesOf(r, size, 20-size), slice)
			checkMade(t, filesOf(r, 0, size, 0), slice)
		}
	}
}

// The files stand as they are given, be their names as they may, and bytes alike.
func TestMakeInOrder(t *testing.T) {
	b := []byte("alike")
	checkMade(t, []Input{{"z", b}, {"a", b}, {"m", b}, {"a/a", b[:3]}, {"0", b}, {"-", nil}}, 2)
	checkMade(t, []Input{{strings.Repeat("a", 40), b}, {strings.Repeat("a", 39), b}, {"...", b}, {"a.gys/b", b}, {"older", []byte{}}}, 5)
	checkMade(t, []Input{{"a", make([]byte, 30)}, {"b", make([]byte, 30)}}, 4)
}

// What is made is formed, and has the very directory that layer 14 tells.
func TestMadeIsFormed(t *testing.T) {
	r := rand.New(rand.NewSource(3))
	for _, c := range edges {
		s, _, e := Make(filesOf(r, c.sizes...), c.slice)
		if e != api.OK || !packet.Formed(s) {
			t.Fatalf("%v by %d: %d", c.sizes, c.slice, e)
		}
		l, e := packet.Directory(s)
		if e != api.OK {
			t.Fatal(e)
		}
		if back, e := packet.Join(l, l[0].Set); e != api.OK || !sameSets(back, s) {
			t.Fatalf("%v by %d: %v, %d", c.sizes, c.slice, back, e)
		}
	}
}

func TestMakeWrongSlice(t *testing.T) {
	r := rand.New(rand.NewSource(4))
	for _, slice := range wrongSlices {
		checkNotMade(t, filesOf(r, 5, 0), slice, api.ErrArg)
		checkNotMade(t, filesOf(r, 0), slice, api.ErrArg)
		checkNotMade(t, nil, slice, api.ErrArg)
	}
	for slice := 1; slice <= 256; slice++ {
		checkNotMade(t, nil, slice, api.ErrArg)
		checkNotMade(t, []Input{}, slice, api.ErrArg)
		checkMade(t, filesOf(r, 5, 0), slice)
	}
}

func TestMakeTooManyFiles(t *testing.T) {
	r := rand.New(rand.NewSource(5))
	for count := 1; count <= 20; count++ {
		for _, size := range []int{0, 1, 3} {
			l := filesOf(r, slices.Repeat([]int{size}, count)...)
			if count <= 8 {
				checkMade(t, l, 4)
			} else {
				checkNotMade(t, l, 4, api.ErrMany)
			}
		}
	}
}

// wrongNames are no names of layer 15.
var wrongNames = []string{"", "A", "a b", "/", "/a", "a/", "a//b", ".", "..", "../a", "a/..", "a/./b", "old", "tmp", "old/a", "tmp/0", "0.gys",
	"a.gys", ".gys", "é", "a\x00", "a\n", "\xff", strings.Repeat("a", 41), strings.Repeat("a", 1000)}

func TestMakeWrongNames(t *testing.T) {
	r := rand.New(rand.NewSource(6))
	for _, name := range wrongNames {
		checkNotMade(t, []Input{{name, []byte("bytes")}}, 2, api.ErrPath)
		for i := range 4 {
			l := filesOf(r, 5, 0, 3, 7)
			l[i].Name = name
			checkNotMade(t, l, 2, api.ErrPath)
		}
	}
}

func TestMakeTwice(t *testing.T) {
	r := rand.New(rand.NewSource(7))
	for count := 2; count <= 8; count++ {
		for i := range count {
			for k := range i {
				l := filesOf(r, slices.Repeat([]int{3}, count)...)
				l[i].Name = l[k].Name
				checkNotMade(t, l, 2, api.ErrTwice)
				l[i].B, l[k].B = nil, nil
				checkNotMade(t, l, 2, api.ErrTwice)
			}
		}
	}
	checkMade(t, []Input{{"a", nil}, {"aa", nil}, {"a/a", nil}, {"a.", nil}, {".a", nil}}, 2)
}

func TestMakeTooManySlices(t *testing.T) {
	r := rand.New(rand.NewSource(8))
	for slice := 1; slice <= 256; slice++ {
		checkMade(t, filesOf(r, 64*slice), slice)
		checkNotMade(t, filesOf(r, 64*slice+1), slice, api.ErrMany)
	}
	for _, c := range []struct {
		slice int
		sizes []int
	}{{1, []int{65}}, {1, []int{64, 1}}, {1, []int{1, 64}}, {1, []int{0, 64, 0, 1}}, {2, []int{127, 1}}, {2, []int{126, 1, 1}},
		{256, []int{16384, 1}}, {256, []int{2048, 2048, 2048, 2048, 2048, 2048, 2048, 2049}}, {256, []int{1 << 20}}, {1, []int{1 << 20}},
		{256, []int{1793, 1793, 1793, 1793, 1793, 1793, 1793, 2049}}, {256, []int{1 << 24, 1 << 24}}, {3, []int{1000, 1000, 0}}} {
		checkNotMade(t, filesOf(r, c.sizes...), c.slice, api.ErrMany)
	}
}

// Where several things are wrong, the one that the chapter names first is answered.
func TestMakeOrderOfErrors(t *testing.T) {
	long := make([]byte, 1000)
	many := []Input{{"../a", long}, {"b", long}, {"b", long}, {"c", nil}, {"d", nil}, {"e", nil}, {"f", nil}, {"g", nil}, {"h", nil}}
	checkNotMade(t, many, 0, api.ErrArg)
	checkNotMade(t, many, 257, api.ErrArg)
	checkNotMade(t, many, 1, api.ErrMany)
	checkNotMade(t, many[:8], 1, api.ErrPath)
	checkNotMade(t, []Input{{"a", nil}, {"a", nil}, {"../a", nil}}, 1, api.ErrPath)
	checkNotMade(t, []Input{{"..", nil}, {"..", nil}}, 1, api.ErrPath)
	checkNotMade(t, []Input{{"a", long}, {"b", nil}, {"B", nil}}, 1, api.ErrPath)
	checkNotMade(t, many[1:8], 1, api.ErrTwice)
	checkNotMade(t, []Input{{"a", long}, {"b", nil}, {"b", nil}}, 1, api.ErrTwice)
	checkNotMade(t, []Input{{"a", long}, {"b", nil}}, 1, api.ErrMany)
	checkNotMade(t, slices.Repeat([]Input{{"a", nil}}, 9), 1, api.ErrMany)
	checkNotMade(t, slices.Repeat([]Input{{"", nil}}, 9), 1, api.ErrMany)
	checkNotMade(t, slices.Repeat([]Input{{"", long}}, 9), 0, api.ErrArg)
}

// What was cut is built again, also of sources that are longer than their slices.
func TestBuild(t *testing.T) {
	r := rand.New(rand.NewSource(9))
	for _, c := range edges {
		l := filesOf(r, c.sizes...)
		s, sources, e := Make(l, c.slice)
		if e != api.OK {
			t.Fatal(e)
		}
		filled, longer := cloneLists(sources), cloneLists(sources)
		for i, b := range sources {
			filled[i] = append(filled[i], make([]byte, c.slice-len(b))...)
			longer[i] = append(longer[i], chance(r, r.Intn(600))...)
		}
		for i, f := range l {
			checkBuilt(t, s, sources, i, f.B)
			checkBuilt(t, s, filled, i, f.B)
			checkBuilt(t, s, longer, i, f.B)
		}
	}
}

// A set that the test cut itself, without Make.
func TestBuildOfPlain(t *testing.T) {
	r := rand.New(rand.NewSource(10))
	for _, c := range edges {
		l := filesOf(r, c.sizes...)
		s, sources := plainMake(l, c.slice)
		for i, f := range l {
			checkBuilt(t, s, sources, i, f.B)
		}
	}
}

// A file of no bytes has none, and its digest is asked too.
func TestBuildOfNoBytes(t *testing.T) {
	s, sources := plainMake([]Input{{"a", nil}}, 3)
	checkBuilt(t, s, nil, 0, nil)
	checkBuilt(t, s, [][]byte{}, 0, nil)
	checkBuilt(t, s, sources, 0, nil)
	checkNotBuilt(t, s, [][]byte{{}}, 0, api.ErrArg)
	checkNotBuilt(t, s, [][]byte{{1}}, 0, api.ErrArg)
	checkNotBuilt(t, s, nil, 1, api.ErrArg)
	s.Files[0].Digest[31]++
	checkNotBuilt(t, s, nil, 0, api.ErrSum)

	l, s, sources := knownFiles()
	s.Files[1].Digest = [32]byte{}
	checkNotBuilt(t, s, sources, 1, api.ErrSum)
	checkBuilt(t, s, sources, 0, l[0].B)
	checkBuilt(t, s, sources, 2, l[2].B)
}

func TestBuildNoFile(t *testing.T) {
	r := rand.New(rand.NewSource(11))
	for _, c := range edges {
		s, sources := plainMake(filesOf(r, c.sizes...), c.slice)
		count := len(c.sizes)
		for _, file := range []int{-1, -2, -count, count, count + 1, 8, 9, 255, 256, 1 << 16, 1 << 32, -1 << 32, math.MaxInt, math.MinInt} {
			if file < 0 || file >= count {
				checkNotBuilt(t, s, sources, file, api.ErrArg)
			}
		}
	}
}

// unformed are sets of which one thing each is wrong.
func unformed() (l []api.Set) {
	for _, change := range []func(s *api.Set){
		func(s *api.Set) { *s = api.Set{} },
		func(s *api.Set) { s.Slice = 0 },
		func(s *api.Set) { s.Slice = -2 },
		func(s *api.Set) { s.Slice = 1 },
		func(s *api.Set) { s.Slice = 3 },
		func(s *api.Set) { s.Slice = 257 },
		func(s *api.Set) { s.Slice = math.MinInt },
		func(s *api.Set) { s.Files = nil },
		func(s *api.Set) { s.Files = s.Files[:2] },
		func(s *api.Set) { s.Files = s.Files[1:] },
		func(s *api.Set) { s.Files[0].Name = "" },
		func(s *api.Set) { s.Files[2].Name = "../a" },
		func(s *api.Set) { s.Files[2].Name = "b" },
		func(s *api.Set) { s.Files[0].Size = 2 },
		func(s *api.Set) { s.Files[0].Size = 4 },
		func(s *api.Set) { s.Files[2].Size = 8 },
		func(s *api.Set) { s.Files[2].Size = 9 },
		func(s *api.Set) { s.Files[2].Size = math.MaxInt },
		func(s *api.Set) { s.Files[1].Size = -1 },
		func(s *api.Set) { s.Files[1].Size = math.MinInt },
		func(s *api.Set) { s.Files[0].First = 1 },
		func(s *api.Set) { s.Files[0].First = -1 },
		func(s *api.Set) { s.Files[1].First = 0 },
		func(s *api.Set) { s.Files[2].First = math.MaxInt },
		func(s *api.Set) { s.Files[2].First = math.MinInt },
		func(s *api.Set) { s.Slices[0].Size = 1 },
		func(s *api.Set) { s.Slices[0].Size = -1 },
		func(s *api.Set) { s.Slices[5].Size = 2 },
		func(s *api.Set) { s.Slices[5].Size = 0 },
		func(s *api.Set) { s.Slices[3].Size = math.MaxInt },
		func(s *api.Set) { s.Slices = s.Slices[:5] },
		func(s *api.Set) { s.Slices = nil },
		func(s *api.Set) { s.Slices = append(s.Slices, s.Slices[0]) },
	} {
		_, s, _ := knownFiles()
		change(&s)
		l = append(l, s)
	}
	return l
}

func TestBuildUnformed(t *testing.T) {
	_, _, sources := knownFiles()
	for _, s := range unformed() {
		for file := -1; file <= 3; file++ {
			checkNotBuilt(t, s, sources, file, api.ErrArg)
			checkNotBuilt(t, s, slices.Repeat([][]byte{make([]byte, 300)}, len(s.Slices)), file, api.ErrArg)
			checkNotBuilt(t, s, nil, file, api.ErrArg)
		}
	}
	r := rand.New(rand.NewSource(12))
	for _, c := range []struct {
		slice int
		sizes []int
	}{{1, []int{65}}, {256, []int{16385}}, {257, []int{300}}, {2, nil}, {3, []int{1, 1, 1, 1, 1, 1, 1, 1, 1}}} {
		s, sources := plainMake(filesOf(r, c.sizes...), c.slice)
		checkNotBuilt(t, s, sources, 0, api.ErrArg)
	}
}

// Sources that aren't as many as slices, whichever file is asked.
func TestBuildNotAsMany(t *testing.T) {
	l, s, sources := knownFiles()
	for file := range l {
		for count := range len(sources) {
			checkNotBuilt(t, s, sources[:count], file, api.ErrArg)
			checkNotBuilt(t, s, sources[count+1:], file, api.ErrArg)
		}
		checkNotBuilt(t, s, nil, file, api.ErrArg)
		for _, more := range [][]byte{nil, {}, {1}, {1, 2}} {
			checkNotBuilt(t, s, append(slices.Clone(sources), more), file, api.ErrArg)
		}
		checkNotBuilt(t, s, slices.Repeat(sources, 20), file, api.ErrArg)
	}
}

// One source that is shorter than its slice, whichever file is asked.
func TestBuildShort(t *testing.T) {
	r := rand.New(rand.NewSource(13))
	for _, c := range edges {
		l := filesOf(r, c.sizes...)
		s, sources := plainMake(l, c.slice)
		for i, whole := range sources {
			for _, size := range []int{0, len(whole) / 2, len(whole) - 1} {
				sources[i] = whole[:size:size]
				// A short one with room behind it is short too.
				roomy := slices.Clone(sources)
				roomy[i] = whole[:size]
				for file := range l {
					checkNotBuilt(t, s, sources, file, api.ErrArg)
					checkNotBuilt(t, s, roomy, file, api.ErrArg)
				}
			}
			sources[i] = nil
			checkNotBuilt(t, s, sources, 0, api.ErrArg)
			sources[i] = whole
		}
	}
}

// Each byte another one: the file that it is of has another digest, and no other one has.
func TestBuildEachByteAnother(t *testing.T) {
	r := rand.New(rand.NewSource(14))
	for _, c := range edges {
		l := filesOf(r, c.sizes...)
		s, sources := plainMake(l, c.slice)
		for file, f := range l {
			for i := range f.B {
				if len(f.B) > 1000 && i%97 != 0 {
					continue
				}
				b := sources[s.Files[file].First+i/c.slice]
				b[i%c.slice] ^= byte(1 + r.Intn(255))
				checkNotBuilt(t, s, sources, file, api.ErrSum)
				other := (file + 1) % len(l)
				if other != file {
					checkBuilt(t, s, sources, other, l[other].B)
				}
				b[i%c.slice] = f.B[i]
			}
		}
	}
}

func TestBuildOtherDigest(t *testing.T) {
	l, s, sources := knownFiles()
	for file := range l {
		for i := range 32 {
			s.Files[file].Digest[i] ^= 1 << (i % 8)
			checkNotBuilt(t, s, sources, file, api.ErrSum)
			for other, f := range l {
				if other != file {
					checkBuilt(t, s, sources, other, f.B)
				}
			}
			s.Files[file].Digest[i] ^= 1 << (i % 8)
		}
	}
	sources[2], sources[3] = sources[3], sources[2]
	checkNotBuilt(t, s, sources, 2, api.ErrSum)
	checkBuilt(t, s, sources, 0, l[0].B)
}

// Of slices the lengths alone are asked, not their CRCs and digests.
func TestBuildAsksTheFilesDigestAlone(t *testing.T) {
	l, s, sources := knownFiles()
	for i := range s.Slices {
		s.Slices[i].CRC++
		s.Slices[i].Digest = [32]byte{}
	}
	for file, f := range l {
		checkBuilt(t, s, sources, file, f.B)
	}
}

// ErrArg goes ahead of ErrSum.
func TestBuildOrderOfErrors(t *testing.T) {
	_, s, sources := knownFiles()
	for i := range s.Files {
		s.Files[i].Digest = [32]byte{}
	}
	for file := range s.Files {
		checkNotBuilt(t, s, sources, file, api.ErrSum)
		checkNotBuilt(t, s, sources[:5], file, api.ErrArg)
		short := slices.Clone(sources)
		short[5] = nil
		checkNotBuilt(t, s, short, file, api.ErrArg)
		wrong := cloneSet(s)
		wrong.Slices[0].Size++
		checkNotBuilt(t, wrong, sources, file, api.ErrArg)
	}
	checkNotBuilt(t, s, sources, 3, api.ErrArg)
	checkNotBuilt(t, s, sources, -1, api.ErrArg)
}

// plainBuild is P16.2 as it stands in the chapter.
func plainBuild(s api.Set, sources [][]byte, file int) ([]byte, api.Errno) {
	if !packet.Formed(s) || len(sources) != len(s.Slices) || file < 0 || file >= len(s.Files) {
		return nil, api.ErrArg
	}
	for i := range sources {
		if len(sources[i]) < s.Slices[i].Size {
			return nil, api.ErrArg
		}
	}
	end := len(s.Slices)
	if file+1 < len(s.Files) {
		end = s.Files[file+1].First
	}
	var b []byte
	for i := s.Files[file].First; i < end; i++ {
		b = append(b, sources[i][:s.Slices[i].Size]...)
	}
	if sha256.Sum256(b) != s.Files[file].Digest {
		return nil, api.ErrSum
	}
	return b, api.OK
}

// spoil makes one thing of what Build is given another one.
func spoil(r *rand.Rand, s *api.Set, sources *[][]byte) {
	numbers := []int{-1, 0, 1, 2, 3, 64, 65, 256, 257, math.MaxInt, math.MinInt, r.Intn(70)}
	n := numbers[r.Intn(len(numbers))]
	f := &s.Files[r.Intn(len(s.Files))]
	switch r.Intn(10) {
	case 0:
		s.Slice = n
	case 1:
		f.Size = n
	case 2:
		f.First = n
	case 3:
		f.Name = wrongNames[r.Intn(len(wrongNames))]
	case 4:
		f.Digest[r.Intn(32)]++
	case 5:
		if len(s.Slices) > 0 {
			s.Slices[r.Intn(len(s.Slices))].Size = n
		}
	case 6:
		*sources = append(*sources, chance(r, 2))
	case 7:
		*sources = (*sources)[:len(*sources)/2]
	default:
		if len(*sources) > 0 {
			(*sources)[r.Intn(len(*sources))] = chance(r, r.Intn(10))
		}
	}
}

func TestBuildByChance(t *testing.T) {
	r := rand.New(rand.NewSource(15))
	told := map[api.Errno]int{}
	for range 20000 {
		c := edges[r.Intn(20)]
		s, sources := plainMake(filesOf(r, c.sizes...), c.slice)
		for range r.Intn(3) {
			spoil(r, &s, &sources)
		}
		file := r.Intn(len(s.Files)+2) - 1
		want, e := plainBuild(s, sources, file)
		if told[e]++; e == api.OK {
			checkBuilt(t, s, sources, file, want)
		} else {
			checkNotBuilt(t, s, sources, file, e)
		}
	}
	for _, e := range []api.Errno{api.OK, api.ErrArg, api.ErrSum} {
		if told[e] < 500 {
			t.Errorf("%d answers of %d alone", told[e], e)
		}
	}
}

// plainFault is what Make of these files should answer.
func plainFault(l []Input, slice int) api.Errno {
	if slice < 1 || slice > 256 || len(l) == 0 {
		return api.ErrArg
	}
	if len(l) > 8 {
		return api.ErrMany
	}
	names := map[string]bool{}
	for _, f := range l {
		if slices.Contains(wrongNames, f.Name) {
			return api.ErrPath
		}
		names[f.Name] = true
	}
	if len(names) < len(l) {
		return api.ErrTwice
	}
	count := 0
	for _, f := range l {
		count += int(math.Ceil(float64(len(f.B)) / float64(slice)))
	}
	if count > 64 {
		return api.ErrMany
	}
	return api.OK
}

func TestMakeByChance(t *testing.T) {
	r := rand.New(rand.NewSource(16))
	for range 20000 {
		slice := r.Intn(300)>>r.Intn(9) - r.Intn(2)
		var l []Input
		for range r.Intn(11) {
			name := letters(r.Intn(26)) + letters(r.Intn(26))
			if r.Intn(30) == 0 {
				name = wrongNames[r.Intn(len(wrongNames))]
			}
			l = append(l, Input{name, chance(r, r.Intn(1000)>>r.Intn(12))})
		}
		if e := plainFault(l, slice); e == api.OK {
			checkMade(t, l, slice)
		} else {
			checkNotMade(t, l, slice, e)
		}
	}
}

// roomy gives the list with spare room behind it, which is filled.
func roomy[T any](l []T, fill T) []T {
	c := append(slices.Clone(l), fill, fill, fill)
	return c[:len(l)]
}

// spare gives what stands in the room that roomy made.
func spare[T any](l []T) []T { return l[len(l) : len(l)+3] }

// What Make is given is left as it is, its spare room too, and isn't kept; what it answers is new memory.
func TestMemoryOfMake(t *testing.T) {
	r := rand.New(rand.NewSource(17))
	for _, c := range edges {
		files := filesOf(r, c.sizes...)
		want, pieces := plainMake(files, c.slice)
		l := roomy(files, Input{Name: "spare"})
		for i := range l {
			l[i].B = roomy(l[i].B, 9)
		}
		s, sources, e := Make(l, c.slice)
		if e != api.OK {
			t.Fatal(e)
		}
		for i, f := range l {
			if f.Name != files[i].Name || !bytes.Equal(f.B, files[i].B) || string(spare(f.B)) != "\t\t\t" || spare(l)[i%3].Name != "spare" {
				t.Fatal("what was given is changed")
			}
			clear(f.B[:cap(f.B)])
		}
		clear(l[:cap(l)])
		if !sameSets(s, want) || !sameLists(sources, pieces) {
			t.Fatal("what is answered changes with what was given")
		}
		for i, b := range sources {
			clear(b[:cap(b)])
			if !sameLists(sources[i+1:], pieces[i+1:]) {
				t.Fatal("two slices share memory")
			}
		}
		clear(sources[:cap(sources)])
		if !sameSets(s, want) {
			t.Fatal("the set shares memory with the slices")
		}
	}
}

// What Build is given is left as it is, its spare room too, and isn't kept; what it answers is new memory.
func TestMemoryOfBuild(t *testing.T) {
	r := rand.New(rand.NewSource(18))
	for _, c := range edges {
		files := filesOf(r, c.sizes...)
		want, pieces := plainMake(files, c.slice)
		for file, f := range files {
			s := api.Set{Slice: want.Slice, Files: roomy(want.Files, api.File{Size: 9}), Slices: roomy(want.Slices, api.Slice{Size: 9})}
			sources := roomy(pieces, []byte("spare"))
			for i := range sources {
				sources[i] = roomy(sources[i], 9)
			}
			b, e := Build(s, sources, file)
			if e != api.OK || !sameSets(s, want) || !sameLists(sources, pieces) {
				t.Fatalf("what was given is changed, %d", e)
			}
			if spare(s.Files)[0].Size != 9 || spare(s.Slices)[0].Size != 9 || string(spare(sources)[0]) != "spare" {
				t.Fatal("spare room is changed")
			}
			for _, p := range sources {
				if string(spare(p)) != "\t\t\t" {
					t.Fatal("spare room is changed")
				}
			}
			other, _ := Build(s, sources, file)
			for i := range sources {
				clear(sources[i][:cap(sources[i])])
			}
			clear(other[:cap(other)])
			clear(s.Files[:cap(s.Files)])
			clear(s.Slices[:cap(s.Slices)])
			if !bytes.Equal(b, f.B) {
				t.Fatal("what is answered changes with what was given, or with another answer")
			}
		}
	}
}

// One list that is given several times is read each time.
func TestSharedArguments(t *testing.T) {
	b := []byte("geyser geyser")
	checkMade(t, []Input{{"a", b}, {"b", b}, {"c", b[3:]}, {"d", b[:3]}}, 3)
	s, _, _ := Make([]Input{{"a", bytes.Repeat([]byte("ab"), 5)}}, 2)
	checkBuilt(t, s, slices.Repeat([][]byte{[]byte("ab")}, 5), 0, []byte("ababababab"))
}

// Nothing is kept from call to call.
func TestCallsAreByThemselves(t *testing.T) {
	l, s, sources := knownFiles()
	for range 3 {
		checkNotMade(t, nil, 2, api.ErrArg)
		checkMade(t, l, 2)
		checkNotMade(t, append(l[:3:3], l[0]), 2, api.ErrTwice)
		checkMade(t, l, 3)
		checkNotBuilt(t, s, nil, 0, api.ErrArg)
		checkBuilt(t, s, sources, 0, l[0].B)
		checkNotBuilt(t, s, sources, 3, api.ErrArg)
		checkBuilt(t, s, sources, 2, l[2].B)
	}
}

// The zero values of all that can be given.
func TestZero(t *testing.T) {
	if n := Count(0, 0); n != 0 {
		t.Error("Count", n)
	}
	checkNotMade(t, nil, 0, api.ErrArg)
	checkNotMade(t, []Input{{}}, 0, api.ErrArg)
	checkNotMade(t, []Input{{}}, 1, api.ErrPath)
	checkNotBuilt(t, api.Set{}, nil, 0, api.ErrArg)
	checkNotBuilt(t, api.Set{Slice: 1}, nil, 0, api.ErrArg)
	checkNotBuilt(t, api.Set{Slice: 1, Files: []api.File{{}}}, nil, 0, api.ErrArg)
	checkNotBuilt(t, api.Set{Slice: 1, Files: []api.File{{Name: "a"}}}, nil, 0, api.ErrSum)
}

// The calls are of the kinds that the chapter lists.
func TestKinds(t *testing.T) {
	var (
		_ func(int, int) int                                = Count
		_ func([]Input, int) (api.Set, [][]byte, api.Errno) = Make
		_ func(api.Set, [][]byte, int) ([]byte, api.Errno)  = Build
		_                                                   = Input([]struct {
			Name string
			B    []byte
		}{{}}[0])
	)
}
