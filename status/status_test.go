package status

import (
	"bytes"
	"crypto/sha256"
	"hash/crc32"
	"math"
	"math/rand"
	"slices"
	"strconv"
	"strings"
	"testing"

	"geyser/api"
	"geyser/cut"
	"geyser/disk"
	"geyser/packet"
	"geyser/scan"
	"geyser/volume"
)

func chance(r *rand.Rand, size int) []byte {
	b := make([]byte, size)
	r.Read(b)
	return b
}

// fileOf tells of a file of these bytes, with a digest that isn't the program's.
func fileOf(name string, b []byte) api.File {
	return api.File{Name: name, Size: len(b), Digest: sha256.Sum256(b)}
}

// setOf has files of these bytes; their names are a, b, and so on.
func setOf(slice int, files ...[]byte) api.Set {
	s := api.Set{Slice: slice}
	for i, b := range files {
		f := fileOf(letter(i), b)
		f.First = len(s.Slices)
		s.Files = append(s.Files, f)
		for part := range slices.Chunk(b, slice) {
			s.Slices = append(s.Slices, api.Slice{Size: len(part), CRC: crc32.ChecksumIEEE(part), Digest: sha256.Sum256(part)})
		}
	}
	return s
}

func letter(i int) string { return string(rune('a' + i)) }

// storeOf has files of these names and bytes, a name and then its text.
func storeOf(told ...string) (s scan.Store) {
	for pair := range slices.Chunk(told, 2) {
		s.Names = append(s.Names, pair[0])
		s.B = append(s.B, []byte(pair[1]))
	}
	return s
}

func cloneStore(s scan.Store) (c scan.Store) {
	c.Names = slices.Clone(s.Names)
	for _, b := range s.B {
		c.B = append(c.B, bytes.Clone(b))
	}
	return c
}

func sameStores(s, c scan.Store) bool {
	return slices.Equal(s.Names, c.Names) && slices.EqualFunc(s.B, c.B, bytes.Equal)
}

func checkOf(t *testing.T, s scan.Store, set api.Set, want ...int) {
	t.Helper()
	if l, e := Of(s, set); e != api.OK || !slices.Equal(l, want) {
		t.Fatalf("Of %v: %v, %d, not %v", s, l, e, want)
	}
}

func checkNotOf(t *testing.T, s scan.Store, set api.Set) {
	t.Helper()
	if l, e := Of(s, set); e != api.ErrArg || l != nil {
		t.Fatalf("Of %v: %v, %d", set, l, e)
	}
}

func checkWhere(t *testing.T, s scan.Store, f api.File, want string) {
	t.Helper()
	if name := Where(s, f); name != want {
		t.Fatalf("Where of %q in %v: %q, not %q", f.Name, s, name, want)
	}
}

func must(t *testing.T, l ...api.Errno) {
	t.Helper()
	for i, e := range l {
		if e != api.OK {
			t.Fatalf("call %d: %d", i, e)
		}
	}
}

// A file that was renamed: Elsewhere.
func TestExample(t *testing.T) {
	set := setOf(3, []byte("files that come back"))
	checkOf(t, storeOf("renamed", "files that come back"), set, Elsewhere)
}

func TestNumbers(t *testing.T) {
	if l := [4]int{Whole, Elsewhere, Damaged, Missing}; l != [4]int{1, 2, 3, 4} {
		t.Error(l)
	}
}

func TestSame(t *testing.T) {
	r := rand.New(rand.NewSource(1))
	for _, size := range []int{0, 1, 2, 55, 56, 63, 64, 65, 255, 256, 257, 16384, api.MaxDisk, api.MaxDisk + 1} {
		b := chance(r, size)
		f := fileOf("a", b)
		if !Same(b, f) || !Same(bytes.Clone(b), f) {
			t.Errorf("%d bytes aren't the same", size)
		}
		if Same(append(bytes.Clone(b), 0), f) || Same(append([]byte{0}, b...), f) {
			t.Errorf("%d bytes and one more are the same", size)
		}
		if size > 0 && (Same(b[1:], f) || Same(b[:size-1], f) || Same(nil, f)) {
			t.Errorf("less than %d bytes are the same", size)
		}
	}
	if !Same(nil, fileOf("a", []byte{})) || !Same([]byte{}, fileOf("a", nil)) {
		t.Error("no bytes")
	}
}

// Of a file in which one bit is another one, none is the same.
func TestSameEachBit(t *testing.T) {
	b := chance(rand.New(rand.NewSource(2)), 70)
	f := fileOf("a", b)
	for bit := range 8 * len(b) {
		other := bytes.Clone(b)
		other[bit/8] ^= 1 << (bit % 8)
		if Same(other, f) {
			t.Errorf("bit %d", bit)
		}
	}
	for bit := range 8 * len(f.Digest) {
		other := f
		other.Digest[bit/8] ^= 1 << (bit % 8)
		if Same(b, other) {
			t.Errorf("the digest's bit %d", bit)
		}
	}
}

// The length is asked too, and not the digest alone.
func TestSameAsksTheLength(t *testing.T) {
	for _, text := range []string{"", "a", "files that come back"} {
		f := fileOf("a", []byte(text))
		for _, size := range []int{len(text) - 1, len(text) + 1, -len(text) - 1, len(text) + 256, len(text) + 1<<32, math.MinInt, math.MaxInt} {
			f.Size = size
			if Same([]byte(text), f) {
				t.Errorf("%q is the same as %d bytes", text, size)
			}
		}
	}
}

// A file's name, and where its slices begin, are not asked.
func TestSameAsksNothingElse(t *testing.T) {
	b := []byte("files that come back")
	f := fileOf("", b)
	for _, name := range []string{"", "a", "../a", "0.gys", strings.Repeat("n", 1000)} {
		for _, first := range []int{0, 1, -1, math.MinInt, math.MaxInt} {
			f.Name, f.First = name, first
			if !Same(b, f) {
				t.Errorf("%q at %d", name, first)
			}
		}
	}
	if Same(nil, api.File{}) || Same([]byte{}, api.File{}) || Same(b, api.File{}) {
		t.Error("a file of no digest")
	}
}

func TestWhere(t *testing.T) {
	f := fileOf("a", []byte("bytes"))
	for _, c := range []struct {
		s    scan.Store
		want string
	}{
		{scan.Store{}, ""},
		{storeOf("a", "bytes"), "a"},
		{storeOf("a", "Bytes"), ""},
		{storeOf("a", "byte"), ""},
		{storeOf("a", "bytes+"), ""},
		{storeOf("a", "+bytes"), ""},
		{storeOf("a", ""), ""},
		{storeOf("moved", "bytes"), "moved"},
		{storeOf("a", "other", "moved", "bytes"), "moved"},
		{storeOf("a", "bytes", "b", "bytes"), "a"},
		{storeOf("0", "bytes", "a", "bytes"), "0"},
		{storeOf("z", "bytes", "a", "bytes"), "z"},
		{storeOf("z", "byte", "y", "bytesbytes", "x", "bytes", "w", "bytes"), "x"},
		{storeOf("0.gys", "bytes"), "0.gys"},
		{storeOf("old/0/a", "bytes", "tmp/0", "bytes"), "old/0/a"},
		{storeOf("A B\xff", "bytes"), "A B\xff"},
		{storeOf("", "bytes", "b", "bytes"), ""},
		{storeOf("b", "", "a", "other", "b", "bytes"), "b"},
	} {
		checkWhere(t, c.s, f, c.want)
	}
}

// Where asks what Same does: of no bytes, of lengths that no file has, of names that may not be.
func TestWhereOfAnyFile(t *testing.T) {
	s := storeOf("full", "x", "empty", "", "none", "")
	checkWhere(t, s, fileOf("a", nil), "empty")
	checkWhere(t, s, fileOf("../none", nil), "empty")
	checkWhere(t, s, api.File{Digest: sha256.Sum256(nil), First: -1}, "empty")
	checkWhere(t, s, api.File{Digest: sha256.Sum256(nil), Size: -1}, "")
	checkWhere(t, s, api.File{Digest: sha256.Sum256(nil), Size: math.MaxInt}, "")
	checkWhere(t, s, api.File{Digest: sha256.Sum256(nil), Size: math.MinInt}, "")
	checkWhere(t, s, api.File{Name: "full", Size: 1}, "")
	checkWhere(t, s, api.File{}, "")
	checkWhere(t, scan.Store{}, api.File{}, "")
	checkWhere(t, scan.Store{Names: make([]string, 1000), B: make([][]byte, 1000)}, fileOf("a", nil), "")
}

func TestOf(t *testing.T) {
	set := setOf(3, []byte("bytes"))
	for _, c := range []struct {
		s    scan.Store
		want int
	}{
		{scan.Store{}, Missing},
		{storeOf("a", "bytes"), Whole},
		{storeOf("a", "Bytes"), Damaged},
		{storeOf("a", "byte"), Damaged},
		{storeOf("a", "bytes+"), Damaged},
		{storeOf("a", ""), Damaged},
		{storeOf("b", "bytes"), Elsewhere},
		{storeOf("b", "Bytes"), Missing},
		{storeOf("b", "+bytes", "c", "bytes+", "d", ""), Missing},
		{storeOf("a", "bytes", "b", "bytes"), Whole},
		{storeOf("0", "bytes", "a", "bytes"), Whole},
		{storeOf("0", "bytes", "a", "other"), Elsewhere},
		{storeOf("a", "other", "z", "bytes"), Elsewhere},
		{storeOf("z", "bytes", "a", "byte"), Elsewhere},
		{storeOf("a", "other", "z", "byte"), Damaged},
		{storeOf("old/0/a", "bytes"), Elsewhere},
		{storeOf("tmp/999", "bytes"), Elsewhere},
		{storeOf("0.gys", "bytes"), Elsewhere},
		{storeOf("A", "bytes"), Elsewhere},
		{storeOf("A", "other"), Missing},
		{storeOf("aa", "other", "", "other", "./a", "other", "a/", "other", "a ", "other"), Missing},
		{storeOf("", "bytes"), Elsewhere},
		{storeOf("a", "byte", "", "bytes"), Elsewhere},
		{storeOf("by", "by", "tes", "tes", "0.gys", "tesby"), Missing},
	} {
		checkOf(t, c.s, set, c.want)
	}
}

func TestOfMany(t *testing.T) {
	set := setOf(4, []byte("whole"), []byte("elsewhere"), []byte("damaged"), []byte("missing"), nil)
	checkOf(t, scan.Store{}, set, Missing, Missing, Missing, Missing, Missing)
	checkOf(t, storeOf("a", "whole", "moved", "elsewhere", "c", "?amaged", "e", ""), set, Whole, Elsewhere, Damaged, Missing, Whole)
	checkOf(t, storeOf("a", "whole", "b", "elsewhere", "c", "damaged", "d", "missing", "e", ""), set, Whole, Whole, Whole, Whole, Whole)
	checkOf(t, storeOf("e", "whole", "d", "elsewhere", "c", "damaged", "b", "missing", "a", ""), set, Elsewhere, Elsewhere, Whole, Elsewhere, Elsewhere)
	checkOf(t, storeOf("a", "?", "b", "?", "c", "?", "d", "?", "e", "?"), set, Damaged, Damaged, Damaged, Damaged, Damaged)
	checkOf(t, storeOf("b", "elsewhere", "a", "whol", "z", ""), set, Damaged, Whole, Missing, Missing, Elsewhere)
}

// Files that are alike: where one is, both are.
func TestOfAlike(t *testing.T) {
	set := setOf(4, []byte("alike"), []byte("alike"), nil, nil)
	checkOf(t, storeOf("a", "alike", "b", "alike", "c", "", "d", ""), set, Whole, Whole, Whole, Whole)
	checkOf(t, storeOf("a", "alike", "c", ""), set, Whole, Elsewhere, Whole, Elsewhere)
	checkOf(t, storeOf("b", "alike", "d", "", "c", "x"), set, Elsewhere, Whole, Elsewhere, Whole)
	checkOf(t, storeOf("a", "unlike", "b", "unlike"), set, Damaged, Damaged, Missing, Missing)
	checkOf(t, storeOf("c", "alike", "a", ""), set, Elsewhere, Elsewhere, Elsewhere, Elsewhere)
}

// plainOf is what the chapter says of a file in a store that has each name once, by bytes that are known.
func plainOf(s scan.Store, name, text string) int {
	there, other := false, false
	for i, b := range s.B {
		right := string(b) == text
		switch {
		case s.Names[i] == name && right:
			return Whole
		case s.Names[i] == name:
			there = true
		case right:
			other = true
		}
	}
	if other {
		return Elsewhere
	}
	if there {
		return Damaged
	}
	return Missing
}

func plainWhere(s scan.Store, text string) string {
	for i, b := range s.B {
		if string(b) == text {
			return s.Names[i]
		}
	}
	return ""
}

// Each of four names has one of four texts, or isn't there, in two orders: all stores of these.
func TestOfAllStores(t *testing.T) {
	names, texts := []string{"a", "b", "c", "0.gys"}, []string{"xx", "xy", "xxy", ""}
	for _, right := range [][]string{{"xx", "xy", ""}, {"xx", "xx", "xxy"}, {"", "", "xy"}} {
		set := setOf(1, []byte(right[0]), []byte(right[1]), []byte(right[2]))
		for n := range 625 {
			var told []string
			for i, left := 0, n; i < len(names); i, left = i+1, left/5 {
				if left%5 < len(texts) {
					told = append(told, names[i], texts[left%5])
				}
			}
			forth := storeOf(told...)
			back := cloneStore(forth)
			slices.Reverse(back.Names)
			slices.Reverse(back.B)
			for _, s := range []scan.Store{forth, back} {
				var want []int
				for i, text := range right {
					want = append(want, plainOf(s, letter(i), text))
					checkWhere(t, s, set.Files[i], plainWhere(s, text))
				}
				checkOf(t, s, set, want...)
			}
		}
	}
}

// What Of tells goes with what Where tells, in stores by chance.
func TestOfByChance(t *testing.T) {
	r := rand.New(rand.NewSource(3))
	for range 2000 {
		slice := 1 + r.Intn(api.MaxSlice)
		var files [][]byte
		for range 1 + r.Intn(api.MaxFiles) {
			files = append(files, chance(r, r.Intn(8*slice+1)))
		}
		var s scan.Store
		for _, i := range r.Perm(len(files) + 3) {
			b := bytes.Clone(files[r.Intn(len(files))])
			if len(b) > 0 && r.Intn(3) == 0 {
				b[r.Intn(len(b))] ^= byte(1 + r.Intn(255))
			}
			if r.Intn(4) > 0 {
				s.Names, s.B = append(s.Names, letter(i)), append(s.B, b)
			}
		}
		set := setOf(slice, files...)
		var want []int
		for i, b := range files {
			want = append(want, plainOf(s, letter(i), string(b)))
			checkWhere(t, s, set.Files[i], plainWhere(s, string(b)))
		}
		checkOf(t, s, set, want...)
	}
}

// The greatest sets, and files that are far longer than those that are looked for.
func TestOfGreat(t *testing.T) {
	r := rand.New(rand.NewSource(4))
	b := chance(r, api.MaxSlice*api.MaxSlices)
	set := setOf(api.MaxSlice, b)
	long := scan.Store{Names: []string{"long", "a"}, B: [][]byte{append(bytes.Clone(b), chance(r, api.MaxDisk-len(b))...), b}}
	checkOf(t, long, set, Whole)
	checkWhere(t, long, set.Files[0], "a")
	long.Names[1] = "moved"
	checkOf(t, long, set, Elsewhere)
	long.B[1] = b[1:]
	checkOf(t, long, set, Missing)
	long.Names[0] = "a"
	checkOf(t, long, set, Damaged)

	var files [][]byte
	var whole scan.Store
	for i := range api.MaxFiles {
		files = append(files, chance(r, api.MaxSlice*api.MaxSlices/api.MaxFiles))
		whole.Names, whole.B = append(whole.Names, letter(i)), append(whole.B, files[i])
	}
	set = setOf(api.MaxSlice, files...)
	checkOf(t, whole, set, slices.Repeat([]int{Whole}, api.MaxFiles)...)
	slices.Reverse(whole.Names)
	checkOf(t, whole, set, slices.Repeat([]int{Elsewhere}, api.MaxFiles)...)
	for _, b := range whole.B {
		b[len(b)-1] ^= 128
	}
	checkOf(t, whole, set, slices.Repeat([]int{Damaged}, api.MaxFiles)...)
	checkOf(t, scan.Store{}, set, slices.Repeat([]int{Missing}, api.MaxFiles)...)
}

// A file whose first name in the store has other bytes is elsewhere, where it stands under the name again.
func TestOfNamesTwice(t *testing.T) {
	set := setOf(4, []byte("bytes"))
	checkOf(t, storeOf("a", "bytes", "a", "other"), set, Whole)
	checkOf(t, storeOf("a", "other", "a", "bytes"), set, Elsewhere)
	checkOf(t, storeOf("a", "other", "a", "another"), set, Damaged)
	checkWhere(t, storeOf("a", "other", "a", "bytes"), set.Files[0], "a")
}

// A name without a file, or a file without a name, is no file of the store.
func TestOfNotAsManyNames(t *testing.T) {
	set := setOf(4, []byte("bytes"))
	b := []byte("bytes")
	for _, c := range []struct {
		s     scan.Store
		want  int
		where string
	}{
		{scan.Store{Names: []string{"a"}}, Missing, ""},
		{scan.Store{B: [][]byte{b}}, Missing, ""},
		{scan.Store{Names: []string{"b", "a"}, B: [][]byte{nil}}, Missing, ""},
		{scan.Store{Names: []string{"b", "a"}, B: [][]byte{b}}, Elsewhere, "b"},
		{scan.Store{Names: []string{"a", "b"}, B: [][]byte{nil}}, Damaged, ""},
		{scan.Store{Names: []string{"a", "b"}, B: [][]byte{b}}, Whole, "a"},
		{scan.Store{Names: []string{"a"}, B: [][]byte{nil, b}}, Damaged, ""},
		{scan.Store{Names: []string{"b"}, B: [][]byte{nil, b}}, Missing, ""},
		{scan.Store{Names: []string{"a"}, B: [][]byte{b, nil}}, Whole, "a"},
		{scan.Store{Names: make([]string, 1000), B: make([][]byte, 999)}, Missing, ""},
		{scan.Store{Names: make([]string, 999), B: make([][]byte, 1000)}, Missing, ""},
	} {
		checkOf(t, c.s, set, c.want)
		checkWhere(t, c.s, set.Files[0], c.where)
	}
}

// unformed are sets of which one thing each is wrong.
func unformed() (l []api.Set) {
	l = append(l, api.Set{}, setOf(1, make([]byte, 65)), setOf(257, make([]byte, 257)), setOf(2, make([][]byte, 9)...))
	for _, change := range []func(s *api.Set, f, g *api.File){
		func(s *api.Set, f, g *api.File) { s.Slice = 0 },
		func(s *api.Set, f, g *api.File) { s.Slice = -2 },
		func(s *api.Set, f, g *api.File) { s.Slice = 3 },
		func(s *api.Set, f, g *api.File) { s.Slice = math.MaxInt },
		func(s *api.Set, f, g *api.File) { s.Files = nil },
		func(s *api.Set, f, g *api.File) { s.Files = s.Files[1:] },
		func(s *api.Set, f, g *api.File) { f.Name = "" },
		func(s *api.Set, f, g *api.File) { f.Name = "0.gys" },
		func(s *api.Set, f, g *api.File) { g.Name = "old/0/a" },
		func(s *api.Set, f, g *api.File) { g.Name = f.Name },
		func(s *api.Set, f, g *api.File) { f.Size = -1 },
		func(s *api.Set, f, g *api.File) { f.Size = math.MinInt },
		func(s *api.Set, f, g *api.File) { g.Size++ },
		func(s *api.Set, f, g *api.File) { g.Size = math.MaxInt },
		func(s *api.Set, f, g *api.File) { f.First = 1 },
		func(s *api.Set, f, g *api.File) { g.First = math.MinInt },
		func(s *api.Set, f, g *api.File) { s.Slices = s.Slices[:2] },
		func(s *api.Set, f, g *api.File) { s.Slices = nil },
		func(s *api.Set, f, g *api.File) { s.Slices = append(s.Slices, s.Slices[0]) },
		func(s *api.Set, f, g *api.File) { s.Slices[0].Size = 1 },
		func(s *api.Set, f, g *api.File) { s.Slices[2].Size = math.MaxInt },
	} {
		s := setOf(2, []byte("abcd"), []byte("e"))
		change(&s, &s.Files[0], &s.Files[1])
		l = append(l, s)
	}
	return l
}

// A set that isn't formed is none, also where its files are there.
func TestOfUnformed(t *testing.T) {
	for _, set := range unformed() {
		for _, s := range []scan.Store{{}, storeOf("a", "abcd", "b", "e"), {Names: []string{"a"}}, {B: [][]byte{nil}}} {
			checkNotOf(t, s, set)
		}
	}
	checkOf(t, storeOf("a", "abcd", "b", "e"), setOf(2, []byte("abcd"), []byte("e")), Whole, Whole)
}

// A set whose slices' sums are wrong is formed: a file is told by its own digest.
func TestOfAsksTheFilesDigest(t *testing.T) {
	set := setOf(2, []byte("abcd"), []byte("e"))
	for i := range set.Slices {
		set.Slices[i].CRC++
		set.Slices[i].Digest[0]++
	}
	checkOf(t, storeOf("a", "abcd", "moved", "e"), set, Whole, Elsewhere)
	set.Files[0].Digest[31]++
	checkOf(t, storeOf("a", "abcd", "moved", "e"), set, Damaged, Elsewhere)
	set.Files[0].Digest = sha256.Sum256([]byte("abc"))
	checkOf(t, storeOf("moved", "abc", "b", "f"), set, Missing, Damaged)
}

// onDisk makes a disk with the files of the inputs and a volume of their set, all safe.
func onDisk(t *testing.T, l []cut.Input) (*disk.Disk, api.Set) {
	t.Helper()
	set, sources, e := cut.Make(l, 5)
	must(t, e)
	b, e := volume.Make(set, sources, []uint32{0, 1, 2})
	must(t, e)
	d, e := disk.New(10000)
	must(t, e)
	for _, f := range append(l, cut.Input{Name: "0.gys", B: b}) {
		must(t, d.Create(f.Name), d.Append(f.Name, f.B), d.Sync(f.Name))
	}
	must(t, d.Flush())
	return d, set
}

// checkDisk looks at all files of a disk, and holds that to look changes nothing.
func checkDisk(t *testing.T, d *disk.Disk, set api.Set, want ...int) {
	t.Helper()
	before, waits, room := mustLoad(t, d), d.Waits(), d.Room()
	checkOf(t, mustLoad(t, d), set, want...)
	for i, f := range set.Files {
		name := Where(before, f)
		if (name == "") != (want[i] == Damaged || want[i] == Missing) {
			t.Fatalf("%q is %d, at %q", f.Name, want[i], name)
		}
	}
	if !sameStores(before, mustLoad(t, d)) || d.Waits() != waits || d.Room() != room {
		t.Fatal("to look has changed something")
	}
}

func mustLoad(t *testing.T, d *disk.Disk) scan.Store {
	t.Helper()
	s, e := scan.Load(d)
	must(t, e)
	return s
}

// What becomes of the files of a disk, step by step.
func TestOfDisk(t *testing.T) {
	d, set := onDisk(t, []cut.Input{{Name: "d/a", B: []byte("files that come back")}, {Name: "b", B: []byte("bytes")}, {Name: "c"}})
	checkDisk(t, d, set, Whole, Whole, Whole)
	must(t, d.Rename("b", "moved"))
	checkDisk(t, d, set, Whole, Elsewhere, Whole)
	must(t, d.Append("d/a", []byte("+")))
	checkDisk(t, d, set, Damaged, Elsewhere, Whole)
	must(t, d.Remove("c"))
	checkDisk(t, d, set, Damaged, Elsewhere, Missing)
	must(t, d.Create("b"))
	checkDisk(t, d, set, Damaged, Elsewhere, Elsewhere)
	must(t, d.Remove("moved"), d.Append("b", []byte("byte")))
	checkDisk(t, d, set, Damaged, Damaged, Missing)
	must(t, d.Append("b", []byte("s")))
	checkDisk(t, d, set, Damaged, Whole, Missing)
	must(t, d.Rename("b", "c"))
	checkDisk(t, d, set, Damaged, Elsewhere, Damaged)
	d.Restart(0, nil)
	checkDisk(t, d, set, Whole, Whole, Whole)
	must(t, d.Rename("d/a", "b"), d.Flush())
	d.Restart(0, nil)
	checkDisk(t, d, set, Elsewhere, Damaged, Whole)
}

// All sets that a disk's packets tell of can be asked.
func TestOfSets(t *testing.T) {
	d, set := onDisk(t, []cut.Input{{Name: "a", B: []byte("files")}, {Name: "b", B: []byte("bytes")}})
	must(t, d.Remove("b"))
	s := mustLoad(t, d)
	l := scan.Sets(s)
	if len(l) != 1 || !packet.Formed(l[0]) {
		t.Fatal(l)
	}
	checkOf(t, s, l[0], Whole, Missing)
	checkOf(t, s, set, Whole, Missing)
}

// roomy gives the list with spare room behind it, which is filled.
func roomy[T any](l []T, fill T) []T {
	return append(slices.Clone(l), fill, fill, fill)[:len(l)]
}

// spare gives what stands in the room that roomy made.
func spare[T any](l []T) []T { return l[len(l) : len(l)+3] }

// What is given is left as it is, its spare room too, and isn't kept.
func TestArgumentsAreLeft(t *testing.T) {
	plain := storeOf("a", "files", "0", "bytes", "c", "other", "e", "", "f", "files")
	s := scan.Store{Names: roomy(plain.Names, "spare"), B: roomy(plain.B, []byte("spare"))}
	for i, b := range s.B {
		s.B[i] = roomy(b, 9)
	}
	told := setOf(2, []byte("files"), []byte("bytes"), []byte("right"), []byte("gone"), nil)
	set := api.Set{Slice: told.Slice, Files: roomy(told.Files, api.File{Size: 9}), Slices: roomy(told.Slices, api.Slice{Size: 9})}
	l, e := Of(s, set)
	must(t, e)
	name := Where(s, set.Files[1])
	if !Same(s.B[0], set.Files[0]) || Same(s.B[0], set.Files[1]) {
		t.Error("Same of bytes with spare room")
	}
	if !sameStores(s, plain) || !slices.Equal(set.Files, told.Files) || !slices.Equal(set.Slices, told.Slices) || set.Slice != told.Slice {
		t.Error("what was given is changed")
	}
	for i := range 3 {
		if spare(s.Names)[i] != "spare" || string(spare(s.B)[i]) != "spare" || spare(set.Files)[i].Size != 9 || spare(set.Slices)[i].Size != 9 {
			t.Error("spare room is changed")
		}
	}
	for _, b := range s.B {
		if string(spare(b)) != "\t\t\t" {
			t.Error("a file's spare room is changed")
		}
		clear(b)
	}
	clear(s.Names)
	clear(s.B)
	clear(set.Files)
	clear(set.Slices)
	if !slices.Equal(l, []int{Whole, Elsewhere, Damaged, Missing, Whole}) || name != "0" {
		t.Errorf("what is answered changes with what was given: %v, %q", l, name)
	}
}

// Each answer is new memory, and nothing is kept from call to call.
func TestCallsAreByThemselves(t *testing.T) {
	set, other := setOf(4, []byte("bytes"), []byte("more")), setOf(2, []byte("other"))
	s, moved := storeOf("a", "bytes", "b", "mor"), storeOf("b", "bytes", "a", "other")
	for range 3 {
		checkOf(t, s, set, Whole, Damaged)
		l, _ := Of(s, set)
		clear(l[:cap(l)])
		checkOf(t, s, set, Whole, Damaged)
		checkNotOf(t, s, api.Set{})
		checkOf(t, moved, set, Elsewhere, Damaged)
		checkOf(t, s, other, Damaged)
		checkOf(t, moved, other, Whole)
		checkWhere(t, s, set.Files[0], "a")
		checkWhere(t, moved, set.Files[0], "b")
		checkWhere(t, scan.Store{}, set.Files[0], "")
		s.B[1] = append(s.B[1], 'e')
		checkOf(t, s, set, Whole, Whole)
		s.B[1] = s.B[1][:3]
	}
}

// Many files end, too.
func TestManyFiles(t *testing.T) {
	b := []byte("bytes")
	var s scan.Store
	for i := range 100000 {
		s.Names, s.B = append(s.Names, strconv.Itoa(i)), append(s.B, b)
	}
	set := setOf(4, []byte("Bytes"), []byte("bytes"))
	checkOf(t, s, set, Missing, Elsewhere)
	checkWhere(t, s, set.Files[1], "0")
	s.Names[99999] = "b"
	checkOf(t, s, set, Missing, Whole)
}

// The zero values of all that can be given.
func TestZero(t *testing.T) {
	checkNotOf(t, scan.Store{}, api.Set{})
	checkWhere(t, scan.Store{}, api.File{}, "")
	if Same(nil, api.File{}) {
		t.Error("no bytes have a digest")
	}
}

// The calls are of the kinds that the chapter lists.
func TestKinds(t *testing.T) {
	var (
		_ func(scan.Store, api.Set) ([]int, api.Errno) = Of
		_ func([]byte, api.File) bool                  = Same
		_ func(scan.Store, api.File) string            = Where
		_ [1]int                                       = [Whole]int{}
	)
}
