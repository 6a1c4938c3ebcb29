package scan

import (
	"bytes"
	"crypto/sha256"
	"encoding/binary"
	"hash/crc32"
	"math"
	"math/rand"
	"slices"
	"strconv"
	"strings"
	"testing"

	"geyser/api"
	"geyser/cut"
	"geyser/dense"
	"geyser/disk"
	"geyser/encode"
	"geyser/packet"
	"geyser/row"
	"geyser/volume"
)

func chance(r *rand.Rand, size int) []byte {
	b := make([]byte, size)
	r.Read(b)
	return b
}

// setOf cuts files of these bytes, byte by byte; their names are a, b, and so on.
func setOf(slice int, files ...[]byte) (api.Set, [][]byte) {
	s := api.Set{Slice: slice}
	var sources [][]byte
	for i, b := range files {
		name := string(rune('a' + i))
		s.Files = append(s.Files, api.File{Name: name, Size: len(b), Digest: sha256.Sum256(b), First: len(sources)})
		for k, c := range b {
			if k%slice == 0 {
				sources = append(sources, nil)
			}
			sources[len(sources)-1] = append(sources[len(sources)-1], c)
		}
	}
	for _, b := range sources {
		s.Slices = append(s.Slices, api.Slice{Size: len(b), CRC: crc32.ChecksumIEEE(b), Digest: sha256.Sum256(b)})
	}
	return s, sources
}

// filesOf gives files of these lengths, of bytes by chance.
func filesOf(r *rand.Rand, sizes ...int) (l [][]byte) {
	for _, size := range sizes {
		l = append(l, chance(r, size))
	}
	return l
}

// storeOf has files of these bytes; their names are 0, 1, and so on.
func storeOf(files ...[]byte) (s Store) {
	for i, b := range files {
		s.Names = append(s.Names, strconv.Itoa(i))
		s.B = append(s.B, b)
	}
	return s
}

// edges are lengths of files that make a set that is formed, by the slice.
var edges = []struct {
	slice int
	sizes []int
}{
	{1, []int{1}}, {1, []int{64}}, {1, []int{63, 0, 1}}, {2, []int{1}}, {2, []int{2}}, {2, []int{3}}, {2, []int{125, 1}},
	{3, []int{0, 7, 0, 0, 3, 4, 0}}, {4, []int{9, 3}}, {5, []int{5, 10, 4, 6, 0}}, {7, []int{13, 1, 22}}, {100, []int{100, 200, 300}},
	{255, []int{255, 256, 254}}, {256, []int{1}}, {256, []int{255}}, {256, []int{256}}, {256, []int{257}}, {256, []int{16384}},
	{256, []int{0, 16129, 0}}, {13, []int{1, 2, 3, 4, 5, 6, 7, 8}}, {3, []int{0, 0}},
}

// wrap makes a packet's bytes of its kind and body, as chapter 14 has them.
func wrap(name [8]byte, told []byte) []byte {
	digest := sha256.Sum256(slices.Concat(name[:], told))
	b := binary.BigEndian.AppendUint32([]byte("GYS1"), uint32(48+len(told)))
	return slices.Concat(b, name[:], digest[:], told)
}

// symbolBytes makes a symbol's packet.
func symbolBytes(name [8]byte, id uint32, data []byte) []byte {
	return wrap(name, slices.Concat(binary.BigEndian.AppendUint32([]byte{4}, id), data))
}

// mainBytes makes a main packet.
func mainBytes(name [8]byte, slice, files, count int) []byte {
	b := binary.BigEndian.AppendUint16([]byte{1}, uint16(slice))
	return wrap(name, binary.BigEndian.AppendUint16(append(b, byte(files)), uint16(count)))
}

func nameOf(t *testing.T, s api.Set) [8]byte {
	t.Helper()
	name, e := packet.Name(s)
	if e != api.OK {
		t.Fatal(e)
	}
	return name
}

// directoryOf gives the bytes of each packet of a set's directory.
func directoryOf(t *testing.T, s api.Set) (l [][]byte) {
	t.Helper()
	packets, e := packet.Directory(s)
	if e != api.OK {
		t.Fatal(e)
	}
	for _, p := range packets {
		b, e := packet.Encode(p)
		if e != api.OK {
			t.Fatal(e)
		}
		l = append(l, b)
	}
	return l
}

func volumeOf(t *testing.T, s api.Set, sources [][]byte, ids ...uint32) []byte {
	t.Helper()
	b, e := volume.Make(s, sources, ids)
	if e != api.OK {
		t.Fatal(e)
	}
	return b
}

// plainSlices is what the chapter says of slices, place by place, with sums that aren't the program's.
func plainSlices(s Store, set api.Set) (l [][]byte, places []Place) {
	l, places = make([][]byte, len(set.Slices)), make([]Place, len(set.Slices))
	for i, p := range set.Slices {
	search:
		for k, b := range s.B {
			for at := 0; at+p.Size <= len(b); at++ {
				window := b[at : at+p.Size]
				if crc32.ChecksumIEEE(window) == p.CRC && sha256.Sum256(window) == p.Digest {
					l[i], places[i] = bytes.Clone(window), Place{Name: s.Names[k], At: at}
					break search
				}
			}
		}
	}
	return l, places
}

// plainSymbols is what the chapter says of symbols, by asking each ID's first one.
func plainSymbols(t *testing.T, s Store, set api.Set) (l []Symbol) {
	first := map[uint32][]byte{}
	name := nameOf(t, set)
	for _, b := range s.B {
		for _, f := range packet.Find(b) {
			if f.P.Set != name || f.P.Kind != 4 || len(f.P.Data) != set.Slice {
				continue
			}
			if _, ok := first[f.P.ID]; !ok {
				first[f.P.ID] = f.P.Data
			}
		}
	}
	for len(first) > 0 && len(l) < 1000 {
		least := uint32(math.MaxUint32)
		for id := range first {
			least = min(least, id)
		}
		l = append(l, Symbol{ID: least, Data: first[least]})
		delete(first, least)
	}
	return l
}

func sameSymbols(a, b []Symbol) bool {
	return slices.EqualFunc(a, b, func(x, y Symbol) bool { return x.ID == y.ID && bytes.Equal(x.Data, y.Data) })
}

func sameStores(a, b Store) bool {
	return slices.Equal(a.Names, b.Names) && slices.EqualFunc(a.B, b.B, bytes.Equal)
}

func sameSets(a, b []api.Set) bool {
	return slices.EqualFunc(a, b, func(x, y api.Set) bool {
		return x.Slice == y.Slice && slices.Equal(x.Files, y.Files) && slices.Equal(x.Slices, y.Slices)
	})
}

func samePackets(a, b []packet.Packet) bool {
	return slices.EqualFunc(a, b, func(x, y packet.Packet) bool {
		return x.Set == y.Set && x.Kind == y.Kind && x.Slice == y.Slice && x.Files == y.Files && x.Slices == y.Slices &&
			x.Index == y.Index && x.File == y.File && slices.Equal(x.Sums, y.Sums) && x.ID == y.ID && bytes.Equal(x.Data, y.Data)
	})
}

// checkLook holds Look against what is known to be found: slices that aren't found are nil.
func checkLook(t *testing.T, s Store, set api.Set, want Found) {
	t.Helper()
	f, e := Look(s, set)
	if e != api.OK || len(f.Slices) != len(want.Slices) || !slices.Equal(f.Places, want.Places) || !sameSymbols(f.Symbols, want.Symbols) {
		t.Fatalf("Look: %v, %d, not %v", f, e, want)
	}
	for i, b := range f.Slices {
		if !bytes.Equal(b, want.Slices[i]) {
			t.Fatalf("slice %d: %q, not %q", i, b, want.Slices[i])
		}
	}
}

// checkPlain holds Look against the plain search, and gives what it found.
func checkPlain(t *testing.T, s Store, set api.Set) Found {
	t.Helper()
	l, places := plainSlices(s, set)
	want := Found{Slices: l, Places: places, Symbols: plainSymbols(t, s, set)}
	checkLook(t, s, set, want)
	return want
}

func checkNoLook(t *testing.T, s Store, set api.Set) {
	t.Helper()
	f, e := Look(s, set)
	if e != api.ErrArg || f.Slices != nil || f.Places != nil || f.Symbols != nil {
		t.Errorf("Look of %d names, %d files and %v: %v, %d", len(s.Names), len(s.B), set, f, e)
	}
}

func checkSets(t *testing.T, s Store, want ...api.Set) {
	t.Helper()
	if l := Sets(s); !sameSets(l, want) {
		t.Fatalf("Sets: %v, not %v", l, want)
	}
}

func checkLoad(t *testing.T, d *disk.Disk, want Store) {
	t.Helper()
	if s, e := Load(d); e != api.OK || !sameStores(s, want) {
		t.Fatalf("Load: %v, %d, not %v", s, e, want)
	}
}

func checkNoLoad(t *testing.T, d *disk.Disk, want api.Errno) {
	t.Helper()
	if s, e := Load(d); e != want || s.Names != nil || s.B != nil {
		t.Fatalf("Load: %v, %d, not %d", s, e, want)
	}
}

func newDisk(t *testing.T, capacity int) *disk.Disk {
	t.Helper()
	d, e := disk.New(capacity)
	must(t, e)
	return d
}

func must(t *testing.T, l ...api.Errno) {
	t.Helper()
	for i, e := range l {
		if e != api.OK {
			t.Fatalf("call %d: %d", i, e)
		}
	}
}

// fill writes files to the disk, and makes them safe.
func fill(t *testing.T, d *disk.Disk, s Store) {
	t.Helper()
	for i, name := range s.Names {
		must(t, d.Create(name), d.Append(name, s.B[i]), d.Sync(name))
	}
	must(t, d.Flush())
}

// three are three files, in the order of their names.
func three() Store {
	return Store{Names: []string{"0.gys", "a", "old/0/a"}, B: [][]byte{[]byte("GYS1"), {}, []byte("bytes")}}
}

// A file that was shifted by a byte: all its slices are found.
func TestExample(t *testing.T) {
	b := []byte("files that come back")
	set, sources := setOf(3, b)
	f, e := Look(Store{Names: []string{"a"}, B: [][]byte{append([]byte("!"), b...)}}, set)
	if e != api.OK || !slices.EqualFunc(f.Slices, sources, bytes.Equal) {
		t.Fatalf("%q, %d", f.Slices, e)
	}
	for i, p := range f.Places {
		if p != (Place{Name: "a", At: 1 + 3*i}) {
			t.Errorf("slice %d: %v", i, p)
		}
	}
}

func TestLoad(t *testing.T) {
	d := newDisk(t, 100)
	checkLoad(t, d, Store{})
	fill(t, d, Store{Names: []string{"z", "a", "~", "!", "b/c", "0.gys", "tmp/1", "B"}, B: [][]byte{[]byte("zz"), nil, {0, 255}, []byte("!"), []byte("bc"), []byte("GYS1"), {1}, {2}}})
	checkLoad(t, d, Store{Names: []string{"!", "0.gys", "B", "a", "b/c", "tmp/1", "z", "~"}, B: [][]byte{[]byte("!"), []byte("GYS1"), {2}, {}, []byte("bc"), {1}, []byte("zz"), {0, 255}}})
	must(t, d.Append("a", []byte("not safe")), d.Rename("z", "B"), d.Remove("!"), d.Create("new"))
	want := Store{Names: []string{"0.gys", "B", "a", "b/c", "new", "tmp/1", "~"}, B: [][]byte{[]byte("GYS1"), []byte("zz"), []byte("not safe"), []byte("bc"), {}, {1}, {0, 255}}}
	checkLoad(t, d, want)
	checkLoad(t, d.Clone(), want)
	d.Restart(1, []int{3})
	checkLoad(t, d, Store{Names: []string{"!", "0.gys", "B", "a", "b/c", "tmp/1", "~"}, B: [][]byte{[]byte("!"), []byte("GYS1"), []byte("zz"), []byte("not"), []byte("bc"), {1}, {0, 255}}})
}

func TestLoadOfFullDisk(t *testing.T) {
	r := rand.New(rand.NewSource(1))
	d := newDisk(t, api.MaxDisk)
	s := storeOf(chance(r, api.MaxDisk/2), nil, chance(r, api.MaxDisk/2))
	fill(t, d, s)
	checkLoad(t, d, s)
	d = newDisk(t, 0)
	fill(t, d, storeOf(nil, nil))
	checkLoad(t, d, storeOf(nil, nil))
}

func TestLoadOfNoDisk(t *testing.T) {
	checkNoLoad(t, nil, api.ErrArg)
	checkLoad(t, &disk.Disk{}, Store{})
}

// The power is gone: with files, and without one.
func TestLoadOfLostDisk(t *testing.T) {
	for _, s := range []Store{{}, three()} {
		d := newDisk(t, 100)
		fill(t, d, s)
		must(t, d.Fuse(0))
		checkLoad(t, d, s)
		if e := d.Create("new"); e != api.ErrLost {
			t.Fatal(e)
		}
		for range 3 {
			checkNoLoad(t, d, api.ErrLost)
		}
		d.Restart(0, nil)
		checkLoad(t, d, s)
	}
}

// Each file is read once: a fault comes at its own one, and behind all of them not yet.
func TestLoadWithFault(t *testing.T) {
	for n := range 8 {
		d := newDisk(t, 100)
		fill(t, d, three())
		must(t, d.Fault(n))
		for left := n; left >= 3; left -= 3 {
			checkLoad(t, d, three())
		}
		checkNoLoad(t, d, api.ErrIO)
		checkLoad(t, d, three())
	}
	d := newDisk(t, 100)
	must(t, d.Fault(0))
	checkLoad(t, d, Store{})
	if e := d.Create("a"); e != api.ErrIO {
		t.Error(e)
	}
}

// To load is no change: what waits, waits still, and no fuse burns.
func TestLoadChangesNothing(t *testing.T) {
	d := newDisk(t, 100)
	fill(t, d, three())
	must(t, d.Append("a", []byte("not safe")), d.Create("new"), d.Rename("new", "newer"), d.Fuse(1))
	other := d.Clone()
	for range 3 {
		s, e := Load(d)
		must(t, e)
		Packets(s)
		Sets(s)
	}
	if d.Room() != other.Room() || d.Waits() != 2 || d.Lost() || !slices.Equal(d.Names(), other.Names()) {
		t.Fatal("the disk is another one")
	}
	must(t, d.Create("one"))
	if e := d.Create("two"); e != api.ErrLost {
		t.Fatal(e)
	}
	d.Restart(1, []int{4})
	checkLoad(t, d, Store{Names: []string{"0.gys", "a", "new", "old/0/a"}, B: [][]byte{[]byte("GYS1"), []byte("not "), {}, []byte("bytes")}})
}

func TestLoadIsNew(t *testing.T) {
	d := newDisk(t, 100)
	fill(t, d, three())
	first, _ := Load(d)
	second, _ := Load(d)
	for i := range first.B {
		spoil(first.B[i], 9)
	}
	spoil(first.B, []byte("none"))
	spoil(first.Names, "none")
	if !sameStores(second, three()) {
		t.Error("two stores share memory")
	}
	checkLoad(t, d, three())
	must(t, d.Append("old/0/a", []byte("more")), d.Remove("a"))
	if !sameStores(second, three()) {
		t.Error("a store changes with the disk")
	}
}

// spoil writes over all of a list's members, its spare room's too.
func spoil[T any](l []T, by T) {
	l = l[:cap(l)]
	for i := range l {
		l[i] = by
	}
}

// allKinds are packets of each kind, of two sets.
func allKinds(t *testing.T) (l []packet.Packet, b [][]byte) {
	t.Helper()
	set, _ := setOf(2, []byte("abcde"), nil)
	other, _ := setOf(3, []byte("abcde"))
	l, e := packet.Directory(set)
	must(t, e)
	more, e := packet.Directory(other)
	must(t, e)
	l = append(l, more...)
	l = append(l, packet.Packet{Set: l[0].Set, Kind: 4, ID: 7, Data: []byte("xy")}, packet.Packet{Kind: 4, ID: math.MaxUint32, Data: make([]byte, 256)},
		packet.Packet{Set: [8]byte{255}, Kind: 3, Index: 200}, packet.Packet{Kind: 2, File: api.File{Name: "../A", Size: 9, First: 65535}})
	for _, p := range l {
		one, e := packet.Encode(p)
		must(t, e)
		b = append(b, one)
	}
	return l, b
}

func checkPackets(t *testing.T, s Store, want []packet.Packet) {
	t.Helper()
	if l := Packets(s); !samePackets(l, want) {
		t.Fatalf("Packets: %v, not %v", l, want)
	}
}

// Packets stand in the order of the files, and in each one in the order of places.
func TestPackets(t *testing.T) {
	l, b := allKinds(t)
	checkPackets(t, storeOf(slices.Concat(b...)), l)
	checkPackets(t, storeOf(b...), l)
	checkPackets(t, storeOf(slices.Concat(b[:3]...), nil, []byte("junk"), slices.Concat(b[3:5]...), slices.Concat(b[5:]...)), l)
	checkPackets(t, storeOf(slices.Concat(b[3:]...), slices.Concat(b[:3]...)), append(slices.Clone(l[3:]), l[:3]...))
	r := rand.New(rand.NewSource(2))
	for range 200 {
		var want []packet.Packet
		var files [][]byte
		for range r.Intn(5) {
			var file []byte
			for range r.Intn(5) {
				file = append(file, chance(r, r.Intn(10))...)
				i := r.Intn(len(l))
				file = append(file, b[i]...)
				want = append(want, l[i])
			}
			files = append(files, append(file, "GYS1"[:r.Intn(5)]...))
		}
		checkPackets(t, storeOf(files...), want)
	}
}

// The names of files say nothing of which packets there are, nor how many names there are.
func TestPacketsWhateverNames(t *testing.T) {
	l, b := allKinds(t)
	for _, names := range [][]string{nil, {"a"}, {"a", "a"}, {"z", "b"}, {"", "\xff"}, {"a", "b", "c", "d"}} {
		s := Store{Names: names, B: [][]byte{slices.Concat(b[:4]...), slices.Concat(b[4:]...)}}
		checkPackets(t, s, l)
		set, _ := setOf(2, []byte("abcde"), nil)
		other, _ := setOf(3, []byte("abcde"))
		want := []api.Set{set, other}
		slices.SortFunc(want, func(x, y api.Set) int {
			p, q := nameOf(t, x), nameOf(t, y)
			return bytes.Compare(p[:], q[:])
		})
		checkSets(t, s, want...)
	}
}

func TestNoPackets(t *testing.T) {
	_, b := allKinds(t)
	half := len(b[0]) / 2
	for _, s := range []Store{{}, {Names: []string{"a"}}, storeOf(nil), storeOf(nil, nil), storeOf([]byte("GYS1")), storeOf(make([]byte, 1000)),
		storeOf(b[0][:half], b[0][half:]), storeOf(b[0][1:]), storeOf(b[0][:len(b[0])-1])} {
		checkPackets(t, s, nil)
		checkSets(t, s)
	}
	for i := range b[0] {
		wrong := slices.Clone(b[0])
		wrong[i] ^= 1
		checkPackets(t, storeOf(wrong), nil)
	}
}

// What lies within a packet is no packet by itself; where the outer one is broken, it is.
func TestPacketsWithin(t *testing.T) {
	inner := symbolBytes([8]byte{1}, 5, []byte("xy"))
	outer := symbolBytes([8]byte{2}, 6, inner)
	in := packet.Packet{Set: [8]byte{1}, Kind: 4, ID: 5, Data: []byte("xy")}
	out := packet.Packet{Set: [8]byte{2}, Kind: 4, ID: 6, Data: inner}
	checkPackets(t, storeOf(outer), []packet.Packet{out})
	checkPackets(t, storeOf(outer, inner), []packet.Packet{out, in})
	outer[20]++
	checkPackets(t, storeOf(outer), []packet.Packet{in})
}

func TestSets(t *testing.T) {
	set, sources := setOf(4, []byte("abcdefghij"), nil, []byte("xyz"))
	b := volumeOf(t, set, sources, 0, 1, 2)
	l := directoryOf(t, set)
	checkSets(t, storeOf(b), set)
	checkSets(t, storeOf(b, b, b), set)
	checkSets(t, storeOf(l...), set)
	slices.Reverse(l)
	checkSets(t, storeOf(l...), set)
	checkSets(t, storeOf(append([]byte("GYS1"), slices.Concat(l...)...)), set)
	checkSets(t, storeOf(slices.Concat(slices.Repeat(l, 3)...)), set)
	for i := range l {
		rest := slices.Delete(slices.Clone(l), i, i+1)
		checkSets(t, storeOf(rest...))
		checkSets(t, storeOf(slices.Concat(rest...), slices.Concat(rest...)))
		checkSets(t, storeOf(append(rest, l[i])...), set)
	}
	checkSets(t, storeOf(symbolBytes(nameOf(t, set), 5, []byte("abcd"))))
}

// Sets stand by their names, not as they stand in the files; names are numbers from 0 to 255, byte by byte.
func TestSetsRise(t *testing.T) {
	r := rand.New(rand.NewSource(3))
	names := map[[8]byte]api.Set{}
	var all [][8]byte
	var parts [][]byte
	for i := range 300 {
		set, _ := setOf(1+i%9, chance(r, 1+r.Intn(30)))
		name := nameOf(t, set)
		names[name] = set
		all = append(all, name)
		parts = append(parts, directoryOf(t, set)...)
	}
	slices.SortFunc(all, func(a, b [8]byte) int { return bytes.Compare(a[:], b[:]) })
	if len(names) != 300 || all[0][0] > 10 || all[299][0] < 245 {
		t.Fatal("the names aren't from all over")
	}
	var want []api.Set
	for _, name := range all {
		want = append(want, names[name])
	}
	for range 5 {
		r.Shuffle(len(parts), func(i, k int) { parts[i], parts[k] = parts[k], parts[i] })
		checkSets(t, storeOf(slices.Concat(parts[:400]...), slices.Concat(parts[400:]...)), want...)
		checkSets(t, storeOf(slices.Concat(parts...)), want...)
	}
}

// Sets that have all packets of their directory but one here or there, against Join of all packets for all names.
func TestSetsAreJoined(t *testing.T) {
	r := rand.New(rand.NewSource(4))
	some := 0
	for range 200 {
		var parts [][]byte
		for range 1 + r.Intn(6) {
			set, _ := setOf(2, chance(r, 1+r.Intn(6)), chance(r, 1))
			parts = append(parts, directoryOf(t, set)...)
			parts = append(parts, symbolBytes(nameOf(t, set), 3, []byte("xy")))
			if r.Intn(2) == 0 {
				parts = append(parts, mainBytes(nameOf(t, set), 3, 2, 9))
			}
			if r.Intn(2) == 0 {
				parts = slices.Delete(parts, len(parts)-2, len(parts)-1)
			}
		}
		r.Shuffle(len(parts), func(i, k int) { parts[i], parts[k] = parts[k], parts[i] })
		s := storeOf(slices.Concat(parts[:len(parts)/2]...), slices.Concat(parts[len(parts)/2:]...))
		l := Packets(s)
		var names [][8]byte
		for _, p := range l {
			names = append(names, p.Set)
		}
		slices.SortFunc(names, func(a, b [8]byte) int { return bytes.Compare(a[:], b[:]) })
		var want []api.Set
		for _, name := range slices.Compact(names) {
			if set, e := packet.Join(l, name); e == api.OK {
				want = append(want, set)
			}
		}
		some += len(want)
		checkSets(t, s, want...)
	}
	if some < 100 {
		t.Error("hardly a set was whole")
	}
}

// Of a set's main packets the first one counts: a wrong one ahead of the right one hides the set, not one behind it.
func TestSetsFirstMain(t *testing.T) {
	set, _ := setOf(4, []byte("abcdefghij"))
	other, _ := setOf(4, []byte("klmnopqrst"))
	b, more := slices.Concat(directoryOf(t, set)...), slices.Concat(directoryOf(t, other)...)
	for _, wrong := range [][]byte{mainBytes(nameOf(t, set), 5, 1, 3), mainBytes(nameOf(t, set), 4, 2, 3), mainBytes(nameOf(t, set), 4, 1, 4), mainBytes(nameOf(t, set), 0, 0, 0)} {
		checkSets(t, storeOf(b, wrong), set)
		checkSets(t, storeOf(wrong, b))
		checkSets(t, storeOf(wrong, b, more), other)
	}
}

// All slices stand where they were, and are found there.
func TestLookWhole(t *testing.T) {
	r := rand.New(rand.NewSource(5))
	for _, c := range edges {
		files := filesOf(r, c.sizes...)
		set, sources := setOf(c.slice, files...)
		s := Store{B: files}
		for _, f := range set.Files {
			s.Names = append(s.Names, f.Name)
		}
		f := checkPlain(t, s, set)
		if !slices.EqualFunc(f.Slices, sources, bytes.Equal) {
			t.Fatalf("slices of %d: some weren't found", c.slice)
		}
	}
}

// Each slice alone: at the beginning, in the middle and at the end of a file, by itself, and with a byte too few.
func TestLookPlaces(t *testing.T) {
	r := rand.New(rand.NewSource(6))
	for size := 1; size <= 256; size++ {
		b := chance(r, size)
		set, _ := setOf(256-r.Intn(257-size), b)
		for _, ahead := range []int{0, 1, 2, 255, 256, 257} {
			for _, behind := range []int{0, 1, 300} {
				junk := bytes.Repeat([]byte{b[0] ^ 255}, ahead)
				file := slices.Concat(junk, b, chance(r, behind))
				if size > 3 {
					checkLook(t, Store{Names: []string{"z", "x"}, B: [][]byte{nil, file}}, set, Found{Slices: [][]byte{b}, Places: []Place{{"x", ahead}}})
				} else {
					checkPlain(t, storeOf(nil, file), set)
				}
			}
		}
		none := Found{Slices: [][]byte{nil}, Places: []Place{{}}}
		for _, s := range []Store{{}, storeOf(nil), storeOf(nil, []byte{}), storeOf(b[1:]), storeOf(b[:size-1]), storeOf(b[:size-1], b[1:])} {
			checkLook(t, s, set, none)
		}
		// A slice that goes on in the next file isn't one.
		if size > 1 {
			checkLook(t, storeOf(b[:size/2], b[size/2:]), set, none)
		}
	}
}

// Each bit of a slice another one: it isn't found, but its fellows are.
func TestLookEachBit(t *testing.T) {
	r := rand.New(rand.NewSource(7))
	b := chance(r, 60)
	set, sources := setOf(16, b)
	for i := range 8 * len(b) {
		b[i/8] ^= 1 << (i % 8)
		want := Found{Slices: slices.Clone(sources), Places: []Place{{"0", 0}, {"0", 16}, {"0", 32}, {"0", 48}}}
		want.Slices[i/8/16], want.Places[i/8/16] = nil, Place{}
		checkLook(t, storeOf(b), set, want)
		b[i/8] ^= 1 << (i % 8)
	}
}

// A slice that stands at several places is found at the first of them: files in their order, not their names', then offsets.
func TestLookFirstPlace(t *testing.T) {
	set, sources := setOf(4, []byte("abcdefgh"))
	s := Store{Names: []string{"z", "b", "a"}, B: [][]byte{[]byte("xabcxefghefgh"), []byte("xxabcdabcdefgh"), []byte("abcdefgh")}}
	checkLook(t, s, set, Found{Slices: sources, Places: []Place{{"b", 2}, {"z", 5}}})
	slices.Reverse(s.Names)
	slices.Reverse(s.B)
	checkLook(t, s, set, Found{Slices: sources, Places: []Place{{"a", 0}, {"a", 4}}})
	// Places may overlap, and the same name may stand twice.
	set, sources = setOf(4, []byte("ababbaba"))
	checkLook(t, Store{Names: []string{"", ""}, B: [][]byte{nil, []byte("ababa")}}, set, Found{Slices: sources, Places: []Place{{"", 0}, {"", 1}}})
}

// Slices that are alike are all found at one place, each with bytes of its own.
func TestLookAlike(t *testing.T) {
	set, sources := setOf(2, []byte("ababcdaba"), []byte("ab"), []byte("b"), []byte("cda"))
	at := func(n int) Place { return Place{"0", n} }
	s := storeOf([]byte("bcdab"))
	want := Found{Slices: sources, Places: []Place{at(3), at(3), at(1), at(3), at(3), at(3), at(0), at(1), at(3)}}
	checkLook(t, s, set, want)
	f, _ := Look(s, set)
	for i := range f.Slices {
		spoil(f.Slices[i], 'x')
		for k := i + 1; k < len(f.Slices); k++ {
			if !bytes.Equal(f.Slices[k], sources[k]) {
				t.Fatalf("slices %d and %d share memory", i, k)
			}
		}
	}
}

// A last slice is found where as many bytes stand as it has, not those that it is filled up with.
func TestLookShortLast(t *testing.T) {
	set, sources := setOf(8, []byte("12345678abc"))
	for _, s := range []Store{storeOf([]byte("abc")), storeOf([]byte("abcd")), storeOf([]byte("abc\x00\x00\x00\x00\x00")), storeOf([]byte("ab"), []byte("abc"))} {
		f, e := Look(s, set)
		if e != api.OK || f.Slices[0] != nil || f.Places[0] != (Place{}) || string(f.Slices[1]) != "abc" || f.Places[1].At != 0 {
			t.Errorf("%v: %v, %d", s, f, e)
		}
	}
	checkLook(t, storeOf([]byte("8abc12345678")), set, Found{Slices: sources, Places: []Place{{"0", 4}, {"0", 1}}})
}

// Files of few different bytes, of bytes by chance, and with pieces of the set's own, against the plain search.
func TestLookByChance(t *testing.T) {
	r := rand.New(rand.NewSource(8))
	for range 400 {
		few := byte(1 + r.Intn(255)>>r.Intn(8))
		slice := 1 + r.Intn(20)
		var files [][]byte
		for range 1 + r.Intn(4) {
			files = append(files, plainly(chance(r, r.Intn(10*slice+1)), few))
		}
		set, sources := setOf(slice, files...)
		var left [][]byte
		for range r.Intn(5) {
			var b []byte
			for range r.Intn(12) {
				b = append(b, plainly(chance(r, r.Intn(slice)), few)...)
				if len(sources) > 0 {
					p := sources[r.Intn(len(sources))]
					b = append(b, p[:len(p)-r.Intn(2)]...)
				}
			}
			left = append(left, b)
		}
		checkPlain(t, storeOf(left...), set)
	}
}

// plainly makes all bytes small.
func plainly(b []byte, few byte) []byte {
	for i := range b {
		b[i] %= few
	}
	return b
}

// What a volume's packets hold is looked at too, as are files that were put aside.
func TestLookInVolumes(t *testing.T) {
	set, sources := setOf(4, []byte("abcdefgh"))
	name := nameOf(t, set)
	b := slices.Concat(symbolBytes(name, 9, []byte("abcd")), []byte("efgh"))
	checkLook(t, Store{Names: []string{"0.gys"}, B: [][]byte{b}}, set,
		Found{Slices: sources, Places: []Place{{"0.gys", 53}, {"0.gys", 57}}, Symbols: []Symbol{{9, []byte("abcd")}}})
	checkLook(t, Store{Names: []string{"old/0/a", "tmp/0"}, B: [][]byte{[]byte("efgh"), []byte("abcd")}}, set,
		Found{Slices: sources, Places: []Place{{"tmp/0", 0}, {"old/0/a", 0}}})
}

// forged gives as many bytes as b has that begin with head, end with four of their own, and have the CRC of b.
func forged(b, head []byte) []byte {
	want := crc32.ChecksumIEEE(b)
	tail := make([]byte, 4)
	base := crc32.ChecksumIEEE(append(slices.Clone(head), tail...))
	// What each of the tail's bits changes; the changes of several are their sum.
	rows, right := make([][]byte, 0, 32), want^base
	for bit := range 32 {
		tail[bit/8] = 1 << (bit % 8)
		change := crc32.ChecksumIEEE(append(slices.Clone(head), tail...)) ^ base
		tail[bit/8] = 0
		rows = append(rows, append(bits(change), bits(1<<bit)...))
	}
	rows = append(rows, append(bits(right), make([]byte, 32)...))
	reduced := eliminated(rows)
	for bit, on := range reduced {
		tail[bit/8] |= on << (bit % 8)
	}
	return append(slices.Clone(head), tail...)
}

func bits(v uint32) []byte {
	l := make([]byte, 32)
	for i := range l {
		l[i] = byte(v >> i & 1)
	}
	return l
}

// eliminated tells which of the first 32 rows' sum is the last one's, by the marks behind their 32 bits.
func eliminated(rows [][]byte) []byte {
	last := rows[32]
	for at := range 32 {
		pivot := slices.IndexFunc(rows[at:32], func(r []byte) bool { return r[at] == 1 }) + at
		rows[at], rows[pivot] = rows[pivot], rows[at]
		for _, r := range append(slices.Clone(rows[at+1:32]), last) {
			if r[at] == 1 {
				for i := range r {
					r[i] ^= rows[at][i]
				}
			}
		}
	}
	return last[32:]
}

// Other bytes of the same CRC: the digest tells them apart, however they stand around the slice's own.
func TestLookOtherDigest(t *testing.T) {
	r := rand.New(rand.NewSource(9))
	for _, size := range []int{5, 6, 8, 64, 255, 256} {
		b := chance(r, size)
		x, y := forged(b, chance(r, size-4)), forged(b, chance(r, size-4))
		if crc32.ChecksumIEEE(x) != crc32.ChecksumIEEE(b) || bytes.Equal(x, b) || bytes.Equal(x, y) || len(x) != size {
			t.Fatal("the CRC isn't forged")
		}
		set, _ := setOf(size, b)
		none := Found{Slices: [][]byte{nil}, Places: []Place{{}}}
		for _, s := range []Store{storeOf(x), storeOf(x, y, x), storeOf(slices.Concat(x, y)), storeOf(slices.Repeat(x, 5))} {
			checkLook(t, s, set, none)
		}
		for i, l := range [][][]byte{{b, x}, {x, b}, {x, x, b}, {x, y, x, b, y, b}, {y, y, x, x, b}} {
			at := slices.IndexFunc(l, func(p []byte) bool { return bytes.Equal(p, b) })
			checkLook(t, storeOf(l...), set, Found{Slices: [][]byte{b}, Places: []Place{{strconv.Itoa(at), 0}}})
			checkLook(t, storeOf(slices.Concat(l...)), set, Found{Slices: [][]byte{b}, Places: []Place{{"0", at * size}}})
			if t.Failed() {
				t.Fatal(i)
			}
		}
	}
}

// Slices of one set that have the same CRC are each found at their own places.
func TestLookSameCRC(t *testing.T) {
	r := rand.New(rand.NewSource(10))
	for _, size := range []int{5, 9, 256} {
		b := chance(r, size)
		x, y := forged(b, chance(r, size-4)), forged(b, chance(r, size-4))
		set, sources := setOf(size, slices.Concat(b, x, y, x, b[:3]))
		pieces := [][]byte{b, x, y}
		for range 60 {
			var l [][]byte
			for range r.Intn(7) {
				l = append(l, pieces[r.Intn(3)])
			}
			checkPlain(t, storeOf(l...), set)
			checkPlain(t, storeOf(slices.Concat(l...)), set)
		}
		f := checkPlain(t, storeOf(y, x, y, b), set)
		if !slices.EqualFunc(f.Slices, sources, bytes.Equal) {
			t.Error("some weren't found")
		}
	}
}

// Both sums are asked, each alone, of slices as the set tells them.
func TestLookWrongSums(t *testing.T) {
	b := []byte("abcdefghij")
	for i := range 3 {
		for bit := range 32 {
			set, sources := setOf(4, b)
			want := Found{Slices: sources, Places: []Place{{"0", 0}, {"0", 4}, {"0", 8}}}
			want.Slices[i], want.Places[i] = nil, Place{}
			set.Slices[i].CRC ^= 1 << bit
			checkLook(t, storeOf(b), set, want)
			set.Slices[i].CRC ^= 1 << bit
			set.Slices[i].Digest[bit] ^= 1 << (bit % 8)
			checkLook(t, storeOf(b, b), set, want)
		}
	}
}

// Sums of bytes that are more or fewer than the slice has: as many as it has must stand there, whatever other slices have.
func TestLookOtherLengths(t *testing.T) {
	b := []byte("abcdefghij")
	for i, own := range []int{4, 4, 2} {
		for size := range len(b) + 1 {
			if size == own {
				continue
			}
			set, sources := setOf(4, b)
			want := Found{Slices: sources, Places: []Place{{"0", 0}, {"0", 4}, {"0", 8}}}
			want.Slices[i], want.Places[i] = nil, Place{}
			set.Slices[i].CRC, set.Slices[i].Digest = crc32.ChecksumIEEE(b[:size]), sha256.Sum256(b[:size])
			checkLook(t, storeOf(b, nil, b[:size]), set, want)
		}
	}
}

// What files' digests are isn't asked of what is found.
func TestLookFilesDigests(t *testing.T) {
	set, sources := setOf(4, []byte("abcdefgh"))
	set.Files[0].Digest = [32]byte{}
	checkLook(t, storeOf([]byte("efghabcd")), set, Found{Slices: sources, Places: []Place{{"0", 4}, {"0", 0}}})
}

// As many slices, and as great a disk, as there may be; also where each place has a slice's CRC, but none its digest.
func TestLookGreat(t *testing.T) {
	r := rand.New(rand.NewSource(11))
	var files [][]byte
	for i := range 8 {
		files = append(files, chance(r, 2048-i))
	}
	set, sources := setOf(256, files...)
	great := chance(r, api.MaxDisk)
	want := Found{Slices: sources, Places: make([]Place, 64)}
	for i, b := range sources {
		at := (63 - i) * 16384
		copy(great[at+16384-256:], b)
		want.Places[i] = Place{"0", at + 16384 - 256}
	}
	checkLook(t, storeOf(great), set, want)

	noughts := make([]byte, api.MaxDisk)
	set, sources = setOf(256, noughts[:2048], noughts[:2047], noughts[:2046], noughts[:2045])
	checkLook(t, storeOf(noughts), set, Found{Slices: sources, Places: slices.Repeat([]Place{{"0", 0}}, 32)})
	for i := range set.Slices {
		set.Slices[i].Digest[i]++
	}
	checkLook(t, storeOf(noughts), set, Found{Slices: make([][]byte, 32), Places: make([]Place, 32)})
}

// A set whose files have no bytes has no slices; what symbols there are of its name are told still.
func TestLookNoSlices(t *testing.T) {
	set, _ := setOf(3, nil, nil)
	name := nameOf(t, set)
	checkLook(t, Store{}, set, Found{})
	checkLook(t, storeOf([]byte("abc"), slices.Concat(directoryOf(t, set)...)), set, Found{})
	checkLook(t, storeOf(symbolBytes(name, 4, []byte("abc"))), set, Found{Symbols: []Symbol{{4, []byte("abc")}}})
}

func TestSymbols(t *testing.T) {
	r := rand.New(rand.NewSource(12))
	for _, c := range edges {
		set, sources := setOf(c.slice, filesOf(r, c.sizes...)...)
		if len(sources) == 0 {
			continue
		}
		ids := []uint32{9, 0, math.MaxUint32, 1 << 31, 7, 1<<31 - 1, 1}
		var want []Symbol
		for _, id := range []uint32{0, 1, 7, 9, 1<<31 - 1, 1 << 31, math.MaxUint32} {
			b, e := encode.Symbol(sources, c.slice, id)
			must(t, e)
			want = append(want, Symbol{id, b})
		}
		for _, s := range []Store{storeOf(volumeOf(t, set, sources, ids...)), storeOf(volumeOf(t, set, sources, ids[:3]...), nil, volumeOf(t, set, sources, ids[2:]...))} {
			if f := checkPlain(t, s, set); !sameSymbols(f.Symbols, want) {
				t.Fatalf("%v, not %v", f.Symbols, want)
			}
		}
	}
}

// checkSymbols holds the symbols that Look tells of a set of slices of 4 bytes, in files that are made by its name.
func checkSymbols(t *testing.T, want []Symbol, files func(name [8]byte) [][]byte) {
	t.Helper()
	set, _ := setOf(4, []byte("files that come back"))
	s := storeOf(files(nameOf(t, set))...)
	if l := checkPlain(t, s, set).Symbols; !sameSymbols(l, want) {
		t.Errorf("%v, not %v", l, want)
	}
}

// Only symbols of the set's name, as long as its slices, of packets that are whole; of each ID the first of these.
func TestSymbolsWhich(t *testing.T) {
	one, two := []byte("abcd"), []byte("efgh")
	checkSymbols(t, []Symbol{{1, one}}, func(name [8]byte) [][]byte {
		other := name
		other[7]++
		return [][]byte{symbolBytes(other, 1, two), symbolBytes(name, 1, one), symbolBytes(other, 2, two), symbolBytes([8]byte{}, 3, two)}
	})
	checkSymbols(t, []Symbol{{1, one}, {2, two}}, func(name [8]byte) [][]byte {
		return [][]byte{symbolBytes(name, 1, one[:3]), symbolBytes(name, 1, append(two, 'x')), symbolBytes(name, 2, two), symbolBytes(name, 1, one),
			symbolBytes(name, 1, two), symbolBytes(name, 2, one), symbolBytes(name, 3, make([]byte, 256)), symbolBytes(name, 4, one[:1])}
	})
	checkSymbols(t, []Symbol{{5, two}}, func(name [8]byte) [][]byte {
		broken := symbolBytes(name, 5, one)
		broken[len(broken)-1]++
		return [][]byte{broken, symbolBytes(name, 5, two), symbolBytes(name, 6, two)[:56], symbolBytes(name, 6, two)[1:]}
	})
	checkSymbols(t, []Symbol{{3, two}, {4, one}}, func(name [8]byte) [][]byte {
		return [][]byte{slices.Concat([]byte("GYS"), symbolBytes(name, 4, one), symbolBytes(name, 3, two), symbolBytes(name, 4, two)), symbolBytes(name, 3, one)}
	})
	// Other kinds aren't symbols, whatever else is theirs.
	checkSymbols(t, nil, func(name [8]byte) [][]byte {
		return [][]byte{mainBytes(name, 4, 1, 5), wrap(name, []byte{3, 0, 0, 0}), wrap(name, []byte{5, 0, 0, 0, 1, 'a', 'b', 'c', 'd'})}
	})
	checkSymbols(t, nil, func(name [8]byte) [][]byte { return nil })
}

// Slices that are all shorter than the set's length of slices: symbols have that length still.
func TestSymbolsOfShortSlices(t *testing.T) {
	set, sources := setOf(9, []byte("abc"), []byte("de"))
	name := nameOf(t, set)
	symbol, e := encode.Symbol(sources, 9, 3)
	must(t, e)
	s := storeOf(symbolBytes(name, 3, []byte("abc")), symbolBytes(name, 3, symbol), symbolBytes(name, 4, []byte("de")))
	if f := checkPlain(t, s, set); !sameSymbols(f.Symbols, []Symbol{{3, symbol}}) {
		t.Errorf("%v", f.Symbols)
	}
}

// Of more than 1000 symbols those of the least IDs are told, wherever they stand.
func TestSymbolsMany(t *testing.T) {
	r := rand.New(rand.NewSource(13))
	for _, count := range []int{999, 1000, 1001, 1500} {
		var want []Symbol
		for i := range uint32(count) {
			want = append(want, Symbol{ID: i*2000003 + 5, Data: binary.BigEndian.AppendUint32(nil, i)})
		}
		order := r.Perm(count)
		checkSymbols(t, want[:min(count, 1000)], func(name [8]byte) [][]byte {
			var b []byte
			for _, i := range order {
				b = append(b, symbolBytes(name, want[i].ID, want[i].Data)...)
				b = append(b, symbolBytes(name, want[i].ID, []byte("late"))...)
			}
			half := len(b) / 2 / 57 * 57
			return [][]byte{b[:half], b[half:]}
		})
	}
	// Of one ID as many as there may be is one.
	checkSymbols(t, []Symbol{{7, []byte("abcd")}}, func(name [8]byte) [][]byte {
		return [][]byte{bytes.Repeat(symbolBytes(name, 7, []byte("abcd")), 1200)}
	})
}

// A symbol is told as its packet has it: what it should be isn't asked.
func TestSymbolsAsTheyAre(t *testing.T) {
	set, sources := setOf(4, []byte("files that come back"))
	right, e := encode.Symbol(sources, 4, 3)
	must(t, e)
	wrong := append(right[:3:3], right[3]+1)
	f := checkPlain(t, storeOf(symbolBytes(nameOf(t, set), 3, wrong), volumeOf(t, set, sources, 3)), set)
	if !sameSymbols(f.Symbols, []Symbol{{3, wrong}}) {
		t.Errorf("%v", f.Symbols)
	}
}

// unformed are sets of which one thing each is wrong.
func unformed() (l []api.Set) {
	for _, change := range []func(s *api.Set){
		func(s *api.Set) { *s = api.Set{} },
		func(s *api.Set) { s.Slice = 0 },
		func(s *api.Set) { s.Slice = 3 },
		func(s *api.Set) { s.Slice = 257 },
		func(s *api.Set) { s.Slice = math.MinInt },
		func(s *api.Set) { s.Files = nil },
		func(s *api.Set) { s.Files = s.Files[:1] },
		func(s *api.Set) { s.Files[0].Name = "../a" },
		func(s *api.Set) { s.Files[1].Name = "a" },
		func(s *api.Set) { s.Files[0].Size = 3 },
		func(s *api.Set) { s.Files[0].Size = -1 },
		func(s *api.Set) { s.Files[1].Size = math.MaxInt },
		func(s *api.Set) { s.Files[1].First = 0 },
		func(s *api.Set) { s.Files[1].First = math.MaxInt },
		func(s *api.Set) { s.Slices[0].Size = 0 },
		func(s *api.Set) { s.Slices[0].Size = -1 },
		func(s *api.Set) { s.Slices[1].Size = math.MaxInt },
		func(s *api.Set) { s.Slices[2].Size = 257 },
		func(s *api.Set) { s.Slices = s.Slices[:2] },
		func(s *api.Set) { s.Slices = nil },
		func(s *api.Set) { s.Slices = append(s.Slices, s.Slices[0]) },
	} {
		s, _ := setOf(2, []byte("abcd"), []byte("ef"))
		change(&s)
		l = append(l, s)
	}
	many, _ := setOf(1, make([]byte, 65))
	long, _ := setOf(257, make([]byte, 257))
	files, _ := setOf(2, make([][]byte, 9)...)
	return append(l, many, long, files)
}

func TestLookErrors(t *testing.T) {
	b := []byte("abcdef")
	whole := storeOf(b)
	for _, set := range unformed() {
		for _, s := range []Store{{}, whole, {Names: whole.Names}, {B: whole.B}} {
			checkNoLook(t, s, set)
		}
	}
	set, _ := setOf(2, []byte("abcd"), []byte("ef"))
	for _, s := range []Store{{Names: []string{"a"}}, {B: [][]byte{b}}, {B: [][]byte{nil}}, {Names: []string{"a", "b"}, B: [][]byte{b}},
		{Names: []string{"a"}, B: [][]byte{b, b}}, {Names: []string{"a"}, B: [][]byte{b, nil}}, {Names: make([]string, 1000), B: make([][]byte, 999)}} {
		checkNoLook(t, s, set)
	}
	checkPlain(t, whole, set)
	checkPlain(t, Store{Names: []string{}, B: nil}, set)
	checkPlain(t, Store{Names: make([]string, 1000), B: make([][]byte, 1000)}, set)
}

// Names may be any: they are told as they are.
func TestLookNames(t *testing.T) {
	set, sources := setOf(4, []byte("abcd"))
	for _, name := range []string{"", "a", "A B", "../..", "\xff\x00", strings.Repeat("n", 1000)} {
		checkLook(t, Store{Names: []string{"first", name}, B: [][]byte{[]byte("abc"), []byte("abcd")}}, set, Found{Slices: sources, Places: []Place{{name, 0}}})
	}
}

// Sets by chance, whose files are damaged by chance: where what is found has the rank that it takes, it tells all sources.
func TestBroughtBack(t *testing.T) {
	r := rand.New(rand.NewSource(14))
	back := 0
	for range 150 {
		slice := 4 + r.Intn(30)
		var files [][]byte
		for range 1 + r.Intn(4) {
			files = append(files, chance(r, r.Intn(8*slice)))
		}
		set, sources := setOf(slice, files...)
		if len(sources) == 0 {
			continue
		}
		ids, e := volume.Range(r.Uint32()>>1, 1+r.Intn(20))
		must(t, e)
		left := append(files, volumeOf(t, set, sources, ids...), volumeOf(t, set, sources, ids...))
		for i, b := range left {
			left[i] = damaged(r, b)
		}
		r.Shuffle(len(left), func(i, k int) { left[i], left[k] = left[k], left[i] })
		f := checkPlain(t, storeOf(left...), set)
		if checkTold(t, f, sources, slice) {
			back++
		}
	}
	if back < 30 || back > 140 {
		t.Errorf("%d were brought back", back)
	}
}

// damaged gives bytes that were changed, lost or shifted here and there.
func damaged(r *rand.Rand, b []byte) []byte {
	b = slices.Clone(b)
	for range r.Intn(4) {
		at := r.Intn(len(b) + 1)
		switch r.Intn(4) {
		case 0:
			b = b[:at]
		case 1:
			b = slices.Concat(b[:at], chance(r, r.Intn(9)), b[at:])
		case 2:
			b = slices.Delete(b, at, min(len(b), at+r.Intn(9)))
		case 3:
			if at < len(b) {
				b[at] ^= 1 << r.Intn(8)
			}
		}
	}
	return b
}

// checkTold tells whether what is found has the rank that it takes; then it must tell the sources.
func checkTold(t *testing.T, f Found, sources [][]byte, slice int) bool {
	t.Helper()
	k := len(sources)
	var rows, right [][]byte
	for i, b := range f.Slices {
		if b != nil {
			one := make([]byte, k)
			one[i] = 1
			rows, right = append(rows, one), append(right, append(slices.Clone(b), make([]byte, slice-len(b))...))
		}
	}
	for _, p := range f.Symbols {
		rows, right = append(rows, row.Of(k, p.ID)), append(right, p.Data)
	}
	told, e := dense.Solve(rows, right, k)
	if e == api.ErrRank {
		return false
	}
	must(t, e)
	for i, b := range sources {
		if !bytes.HasPrefix(told[i], b) {
			t.Fatalf("source %d: %v, not %v", i, told[i], b)
		}
	}
	return true
}

// A disk whose files were damaged, from what layers 16 and 17 wrote to what Look tells.
func TestOfDisk(t *testing.T) {
	l := []cut.Input{{Name: "a", B: []byte("files that come back")}, {Name: "b/c", B: []byte("geyser")}, {Name: "none"}}
	set, sources, e := cut.Make(l, 5)
	must(t, e)
	d := newDisk(t, 10000)
	b := volumeOf(t, set, sources, 0, 1, 2)
	fill(t, d, Store{Names: []string{"a", "b/c", "none", "0.gys"}, B: [][]byte{[]byte("files thax come back"), []byte("geyser"), nil, b}})
	must(t, d.Rename("b/c", "x"), d.Remove("none"))
	s, e := Load(d)
	must(t, e)
	checkSets(t, s, set)
	f := checkPlain(t, s, set)
	want := []Place{{"a", 0}, {}, {"a", 10}, {"a", 15}, {"x", 0}, {"0.gys", slices.Index(b, 'r')}}
	if !slices.Equal(f.Places[:5], want[:5]) || f.Slices[1] != nil || f.Slices[5] == nil || len(f.Symbols) != 3 {
		t.Errorf("%v", f)
	}
	checkLoad(t, d, s)
}

// roomy gives the list with spare room behind it, which is filled.
func roomy[T any](l []T, fill T) []T {
	c := append(slices.Clone(l), fill, fill, fill)
	return c[:len(l)]
}

// spare gives what stands in the room that roomy made.
func spare[T any](l []T) []T { return l[len(l) : len(l)+3] }

// What is given is left as it is, its spare room too, and isn't kept.
func TestArgumentsAreLeft(t *testing.T) {
	r := rand.New(rand.NewSource(15))
	for _, c := range edges {
		files := filesOf(r, c.sizes...)
		plain, sources := setOf(c.slice, files...)
		left := append(files, slices.Concat(directoryOf(t, plain)...))
		if len(sources) > 0 {
			left = append(left, volumeOf(t, plain, sources, 5, 3, 5))
		}
		before := storeOf(left...)
		packets, want := Packets(before), checkPlain(t, before, plain)
		s := Store{Names: roomy(before.Names, "spare"), B: roomy(left, []byte("spare"))}
		for i, b := range s.B {
			s.B[i] = roomy(b, 9)
		}
		set := api.Set{Slice: plain.Slice, Files: roomy(plain.Files, api.File{Size: 9}), Slices: roomy(plain.Slices, api.Slice{Size: 9})}
		l, sets := Packets(s), Sets(s)
		f, e := Look(s, set)
		must(t, e)
		if !sameStores(s, before) || !sameSets([]api.Set{set}, []api.Set{plain}) {
			t.Fatal("what was given is changed")
		}
		for i := range 3 {
			if spare(s.Names)[i] != "spare" || string(spare(s.B)[i]) != "spare" || spare(set.Files)[i].Size != 9 || spare(set.Slices)[i].Size != 9 {
				t.Fatal("spare room is changed")
			}
		}
		for _, b := range s.B {
			if string(spare(b)) != "\t\t\t" {
				t.Fatal("a file's spare room is changed")
			}
			spoil(b, 200)
		}
		spoil(s.Names, "")
		spoil(s.B, nil)
		spoil(set.Files, api.File{})
		spoil(set.Slices, api.Slice{})
		if !samePackets(l, packets) || !sameSets(sets, []api.Set{plain}) || !slices.Equal(f.Places, want.Places) ||
			!slices.EqualFunc(f.Slices, want.Slices, bytes.Equal) || !sameSymbols(f.Symbols, want.Symbols) {
			t.Fatal("what is answered changes with what was given")
		}
	}
}

// Answers are new memory, and no two lists of one share any.
func TestAnswersAreNew(t *testing.T) {
	files := [][]byte{[]byte("abababcdab"), []byte("ab")}
	set, sources := setOf(2, files...)
	other, _ := setOf(3, files...)
	s := storeOf(files[0], volumeOf(t, set, sources, 1, 2, 3), slices.Concat(directoryOf(t, other)...))
	for range 3 {
		f := checkPlain(t, s, set)
		got, e := Look(s, set)
		must(t, e)
		for i := range got.Slices {
			spoil(got.Slices[i], 'x')
			for k := i + 1; k < len(got.Slices); k++ {
				if !bytes.Equal(got.Slices[k], f.Slices[k]) {
					t.Fatal("two slices share memory")
				}
			}
		}
		for i := range got.Symbols {
			spoil(got.Symbols[i].Data, 'x')
			for k := i + 1; k < len(got.Symbols); k++ {
				if !bytes.Equal(got.Symbols[k].Data, f.Symbols[k].Data) {
					t.Fatal("two symbols share memory")
				}
			}
		}
		spoil(got.Slices, []byte("x"))
		spoil(got.Places, Place{"x", 9})
		spoil(got.Symbols, Symbol{})

		packets, again := Packets(s), Packets(s)
		for _, p := range packets {
			spoil(p.Data, 'x')
			spoil(p.Sums, api.Slice{})
		}
		spoil(packets, packet.Packet{})
		checkPackets(t, s, again)

		sets, want := Sets(s), Sets(s)
		spoil(sets[0].Slices, api.Slice{})
		spoil(sets[0].Files, api.File{})
		if !sameSets(sets[1:], want[1:]) || len(sets) != 2 {
			t.Fatal("two sets share memory")
		}
		spoil(sets, api.Set{})
		checkSets(t, s, want...)
	}
}

// Nothing is kept from call to call.
func TestCallsAreByThemselves(t *testing.T) {
	set, _ := setOf(2, []byte("abcd"))
	other, _ := setOf(3, []byte("abcd"))
	s, more := storeOf([]byte("abcd"), slices.Concat(directoryOf(t, set)...)), storeOf([]byte("bcabcd"), slices.Concat(directoryOf(t, other)...))
	for range 3 {
		checkPlain(t, s, set)
		checkNoLook(t, s, api.Set{})
		checkPlain(t, more, set)
		checkPlain(t, s, other)
		checkSets(t, s, set)
		checkSets(t, more, other)
		checkSets(t, Store{})
		checkNoLoad(t, nil, api.ErrArg)
	}
}

// The zero values of all that can be given.
func TestZero(t *testing.T) {
	checkNoLoad(t, nil, api.ErrArg)
	checkPackets(t, Store{}, nil)
	checkSets(t, Store{})
	checkNoLook(t, Store{}, api.Set{})
}

// The calls, and what they take and answer, are of the kinds that the chapter lists.
func TestKinds(t *testing.T) {
	var (
		_ func(*disk.Disk) (Store, api.Errno)     = Load
		_ func(Store) []packet.Packet             = Packets
		_ func(Store) []api.Set                   = Sets
		_ func(Store, api.Set) (Found, api.Errno) = Look
		_                                         = Place{"a", 1}
		_                                         = Symbol{uint32(1), []byte{2}}
		_                                         = Found{[][]byte{}, []Place{}, []Symbol{}}
		_                                         = Store{[]string{}, [][]byte{}}
	)
}
