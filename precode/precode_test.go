package precode

import (
	"bytes"
	"math"
	"math/rand"
	"testing"

	"geyser/api"
)

// plainMul is chapter 3's product, of polynomials first, the rest of a division by 11d then.
func plainMul(a, b byte) byte {
	product := 0
	for i := range 8 {
		product ^= int(a) * int(b>>i&1) << i
	}
	for i := 14; i >= 8; i-- {
		if product>>i&1 == 1 {
			product ^= 0x11d << (i - 8)
		}
	}
	return byte(product)
}

// plainCount counts the sparse parities up, one for each 8 sources that have begun.
func plainCount(k int) int {
	s := 1
	for begun := 0; begun < k; begun += 8 {
		s++
	}
	return s + 2
}

// plainRows goes from source to source, and marks each parity that the chapter tells for it.
func plainRows(k int) [][]byte {
	rows := make([][]byte, plainCount(k))
	for j := range rows {
		rows[j] = make([]byte, k)
	}
	s := len(rows) - 2
	first := byte(1)
	for i := range k {
		rows[i%s][i] = 1
		rows[(i+i+i+1)%s][i] = 1
		// Each source has the number twice the one ahead of it, and the second dense parity has its square.
		first = plainMul(first, 2)
		rows[s][i] = first
		rows[s+1][i] = plainMul(first, first)
	}
	return rows
}

// plainParities goes from byte to byte.
func plainParities(sources [][]byte, size int) [][]byte {
	rows := plainRows(len(sources))
	parities := make([][]byte, len(rows))
	for j, row := range rows {
		parities[j] = make([]byte, size)
		for i, source := range sources {
			for p, b := range source {
				parities[j][p] ^= plainMul(b, row[i])
			}
		}
	}
	return parities
}

func same(a, b [][]byte) bool {
	if len(a) != len(b) {
		return false
	}
	for i := range a {
		if !bytes.Equal(a[i], b[i]) {
			return false
		}
	}
	return true
}

// some makes k sources of bytes by chance, of all lengths up to the size.
func some(r *rand.Rand, k, size int) [][]byte {
	sources := make([][]byte, k)
	for i := range sources {
		sources[i] = make([]byte, r.Intn(size+1))
		r.Read(sources[i])
	}
	return sources
}

// outside has numbers of sources that no set has.
func outside() []int {
	return []int{0, -1, -2, -7, -8, -9, -64, 65, 66, 72, 128, 256, math.MaxInt32, math.MinInt32, math.MaxInt, math.MaxInt - 7, math.MinInt}
}

func TestCountKnown(t *testing.T) {
	for _, c := range []struct{ k, want int }{
		{1, 4}, {2, 4}, {7, 4}, {8, 4}, {9, 5}, {15, 5}, {16, 5}, {17, 6}, {24, 6}, {25, 7}, {32, 7}, {33, 8},
		{40, 8}, {41, 9}, {48, 9}, {49, 10}, {56, 10}, {57, 11}, {63, 11}, {64, 11},
	} {
		if got := Count(c.k); got != c.want {
			t.Errorf("Count(%d): %d, not %d", c.k, got, c.want)
		}
	}
}

func TestCountOfEach(t *testing.T) {
	for k := 1; k <= 64; k++ {
		if got := Count(k); got != plainCount(k) {
			t.Errorf("Count(%d): %d, not %d", k, got, plainCount(k))
		}
	}
}

func TestNoneOutside(t *testing.T) {
	for _, k := range outside() {
		if got := Count(k); got != 0 {
			t.Errorf("Count(%d): %d", k, got)
		}
		if got := Rows(k); len(got) != 0 {
			t.Errorf("Rows(%d): %d rows", k, len(got))
		}
	}
}

func TestRowsKnown(t *testing.T) {
	for _, want := range [][][]byte{
		{{1}, {1}, {2}, {4}},
		{{1, 1}, {1, 1}, {2, 4}, {4, 16}},
		{
			{1, 1, 1, 1, 1, 1, 1, 1},
			{1, 1, 1, 1, 1, 1, 1, 1},
			{2, 4, 8, 16, 32, 64, 128, 29},
			{4, 16, 64, 29, 116, 205, 19, 76},
		},
		{
			{1, 0, 0, 1, 0, 0, 1, 0, 0},
			{1, 1, 1, 1, 1, 1, 1, 1, 1},
			{0, 0, 1, 0, 0, 1, 0, 0, 1},
			{2, 4, 8, 16, 32, 64, 128, 29, 58},
			{4, 16, 64, 29, 116, 205, 19, 76, 45},
		},
		{
			{1, 1, 0, 0, 1, 1, 0, 0, 1, 1, 0, 0, 1, 1, 0, 0, 1},
			{1, 1, 0, 0, 1, 1, 0, 0, 1, 1, 0, 0, 1, 1, 0, 0, 1},
			{0, 0, 1, 1, 0, 0, 1, 1, 0, 0, 1, 1, 0, 0, 1, 1, 0},
			{0, 0, 1, 1, 0, 0, 1, 1, 0, 0, 1, 1, 0, 0, 1, 1, 0},
			{2, 4, 8, 16, 32, 64, 128, 29, 58, 116, 232, 205, 135, 19, 38, 76, 152},
			{4, 16, 64, 29, 116, 205, 19, 76, 45, 180, 234, 143, 6, 24, 96, 157, 78},
		},
	} {
		if got := Rows(len(want[0])); !same(got, want) {
			t.Errorf("Rows(%d): %d, not %d", len(want[0]), got, want)
		}
	}
}

func TestRowsOfEach(t *testing.T) {
	for k := 1; k <= 64; k++ {
		if got, want := Rows(k), plainRows(k); !same(got, want) {
			t.Errorf("Rows(%d): %d, not %d", k, got, want)
		}
	}
}

// A source that comes to a sparse parity on both ways has the number 1 there, not 1 and 1.
func TestSparseOnBothWays(t *testing.T) {
	for _, c := range []struct{ k, j, i int }{{9, 1, 1}, {16, 1, 13}, {32, 2, 2}, {64, 4, 4}, {64, 4, 58}} {
		if got := Rows(c.k)[c.j][c.i]; got != 1 {
			t.Errorf("of %d sources, parity %d, source %d: %d", c.k, c.j, c.i, got)
		}
	}
}

func TestParitiesKnown(t *testing.T) {
	for _, c := range []struct {
		sources [][]byte
		size    int
		want    [][]byte
	}{
		{[][]byte{{7}}, 1, [][]byte{{7}, {7}, {14}, {28}}},
		{[][]byte{{}}, 2, [][]byte{{0, 0}, {0, 0}, {0, 0}, {0, 0}}},
		{[][]byte{nil}, 1, [][]byte{{0}, {0}, {0}, {0}}},
		{[][]byte{{1, 2, 3}, {4, 5}}, 3, [][]byte{{5, 7, 3}, {5, 7, 3}, {18, 16, 6}, {68, 88, 12}}},
		{[][]byte{{1, 2, 3}, {}, {255}}, 4, [][]byte{{254, 2, 3, 0}, {254, 2, 3, 0}, {169, 4, 6, 0}, {53, 8, 12, 0}}},
		{[][]byte{{128}, {1}, {2}, {4}, {8}, {16}, {32}, {64}, {200}}, 1, [][]byte{{164}, {55}, {218}, {89}, {92}}},
	} {
		got, e := Parities(c.sources, c.size)
		if e != api.OK || !same(got, c.want) {
			t.Errorf("%d of %d: %d, %d, not %d", c.sources, c.size, got, e, c.want)
		}
	}
}

func TestParitiesOfEachNumberOfSources(t *testing.T) {
	r := rand.New(rand.NewSource(7))
	for k := 1; k <= 64; k++ {
		for _, size := range []int{1, 2, 9, 40} {
			sources := some(r, k, size)
			got, e := Parities(sources, size)
			if e != api.OK || !same(got, plainParities(sources, size)) {
				t.Fatalf("%d sources of %d bytes: %d", k, size, e)
			}
		}
	}
}

func TestParitiesOfEachSize(t *testing.T) {
	r := rand.New(rand.NewSource(8))
	for size := 1; size <= 256; size++ {
		sources := some(r, 5, size)
		got, e := Parities(sources, size)
		if e != api.OK || !same(got, plainParities(sources, size)) {
			t.Fatalf("size %d: %d", size, e)
		}
	}
}

func TestParitiesOfTheGreatest(t *testing.T) {
	sources := make([][]byte, 64)
	for i := range sources {
		sources[i] = bytes.Repeat([]byte{255 - byte(i)}, 256)
	}
	got, e := Parities(sources, 256)
	if e != api.OK || !same(got, plainParities(sources, 256)) {
		t.Error(e)
	}
}

// A source alone, of a 1, shows the column of its numbers.
func TestParitiesAreTheRows(t *testing.T) {
	for _, k := range []int{1, 8, 9, 33, 64} {
		rows := Rows(k)
		for i := range k {
			sources := make([][]byte, k)
			sources[i] = []byte{0, 1}
			got, e := Parities(sources, 3)
			if e != api.OK || len(got) != len(rows) {
				t.Fatalf("%d sources: %d parities, %d", k, len(got), e)
			}
			for j, row := range rows {
				if !bytes.Equal(got[j], []byte{0, row[i], 0}) {
					t.Fatalf("%d sources, source %d, parity %d: %d, not %d", k, i, j, got[j], row[i])
				}
			}
		}
	}
}

func TestParitiesWrong(t *testing.T) {
	one := [][]byte{{1}}
	long := [][]byte{{1}, {1, 2, 3}}
	tooMany := make([][]byte, 65)
	tooManyLong := make([][]byte, 65)
	tooManyLong[64] = []byte{1, 2, 3}
	lastLong := make([][]byte, 64)
	lastLong[63] = []byte{1, 2, 3}
	for i, c := range []struct {
		sources [][]byte
		size    int
		want    api.Errno
	}{
		{one, 0, api.ErrArg},
		{one, -1, api.ErrArg},
		{one, 257, api.ErrArg},
		{one, math.MaxInt, api.ErrArg},
		{one, math.MinInt, api.ErrArg},
		{nil, 0, api.ErrArg},
		{tooMany, 257, api.ErrArg},
		{tooManyLong, 0, api.ErrArg},
		{long, 0, api.ErrArg},
		{[][]byte{make([]byte, 258)}, 257, api.ErrArg},
		{nil, 1, api.ErrMany},
		{[][]byte{}, 256, api.ErrMany},
		{tooMany, 1, api.ErrMany},
		{tooManyLong, 2, api.ErrMany},
		{make([][]byte, 1000), 256, api.ErrMany},
		{long, 2, api.ErrLong},
		{long, 1, api.ErrLong},
		{[][]byte{{1, 2}}, 1, api.ErrLong},
		{[][]byte{{0, 0}, {1}}, 1, api.ErrLong},
		{lastLong, 2, api.ErrLong},
		{[][]byte{make([]byte, 257)}, 256, api.ErrLong},
	} {
		if got, e := Parities(c.sources, c.size); len(got) != 0 || e != c.want {
			t.Errorf("case %d: %d, %d, not %d", i, got, e, c.want)
		}
	}
	for _, sources := range [][][]byte{long, lastLong, tooMany[:64]} {
		if got, e := Parities(sources, 3); e != api.OK || !same(got, plainParities(sources, 3)) {
			t.Errorf("%d sources that fit: %d", len(sources), e)
		}
	}
}

// What lies behind a source in its memory is neither summed nor changed, nor is the source.
func TestParitiesLeavesTheSources(t *testing.T) {
	memory := bytes.Repeat([]byte{9, 8, 7}, 20)
	before := bytes.Clone(memory)
	sources := [][]byte{memory[:2], memory[10:15], memory[20:20], memory[30:38]}
	list := append(make([][]byte, 0, 6), sources...)
	got, e := Parities(list, 8)
	if e != api.OK || !same(got, plainParities(sources, 8)) {
		t.Errorf("%d, %d", got, e)
	}
	if !bytes.Equal(memory, before) || !same(list, sources) || list[:6][4] != nil || list[:6][5] != nil {
		t.Error("the sources have changed")
	}
	for i := range memory {
		memory[i] = 77
	}
	if !same(got, plainParities([][]byte{before[:2], before[10:15], before[20:20], before[30:38]}, 8)) {
		t.Error("the parities change with the sources")
	}
}

// spoil writes over all of a list, its spare room and that of its members too.
func spoil(list [][]byte) {
	for _, b := range list {
		b = b[:cap(b)]
		for i := range b {
			b[i] = 200
		}
	}
	list = list[:cap(list)]
	for i := range list {
		list[i] = nil
	}
}

func TestAnswersAreNew(t *testing.T) {
	for _, k := range []int{1, 8, 9, 64} {
		rows := Rows(k)
		for j := range rows {
			rest := append(append([][]byte{}, plainRows(k)[:j]...), plainRows(k)[j+1:]...)
			spoil([][]byte{rows[j]})
			if !same(append(append([][]byte{}, rows[:j]...), rows[j+1:]...), rest) {
				t.Fatalf("row %d of %d sources shares memory", j, k)
			}
			rows = Rows(k)
		}
		spoil(rows)
		if !same(Rows(k), plainRows(k)) {
			t.Errorf("Rows(%d) changes with its last answer", k)
		}
	}
	sources := [][]byte{{1, 2, 3}, {4, 5}, {6}}
	want := plainParities(sources, 3)
	got, _ := Parities(sources, 3)
	for j := range got {
		spoil([][]byte{got[j]})
		if j+1 < len(got) && !same(got[j+1:], want[j+1:]) {
			t.Errorf("parity %d shares memory", j)
		}
	}
	spoil(got)
	if again, e := Parities(sources, 3); e != api.OK || !same(again, want) {
		t.Errorf("%d, %d, not %d", again, e, want)
	}
}

// No call hangs on the one ahead of it, failed ones among them.
func TestCallsAreByThemselves(t *testing.T) {
	sources := [][]byte{{1, 2, 3}, {4, 5}}
	want, _ := Parities(sources, 3)
	for _, k := range append(outside(), 1, 9, 64) {
		Count(k)
		Rows(k)
		Parities(sources, k)
		Parities(nil, k)
		if got, e := Parities(sources, 3); e != api.OK || !same(got, want) {
			t.Fatalf("behind %d: %d, %d", k, got, e)
		}
	}
}
