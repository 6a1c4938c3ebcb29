package row

import (
	"bytes"
	"math"
	"slices"
	"testing"

	"geyser/api"
)

// plainMul is chapter 3's product, of polynomials first, the rest of a division by 11d then.
func plainMul(a, b byte) byte {
	product := 0
	for i := range 8 {
		product ^= int(a) * int(b>>i&1) << i
	}
	for i := 14; i >= 8; i-- {
		if product>>i&1 == 1 {
			product ^= 0x11d << (i - 8)
		}
	}
	return byte(product)
}

// plainStates goes chapter 6's way from state to state.
type plainStates struct{ state uint64 }

func newPlainStates(k int, id uint32) *plainStates {
	const all = uint64(1) << 32
	state := (uint64(id)*2654435761%all + uint64(k)*40503) % all
	state ^= 0x9e3779b9
	if state == 0 {
		state = 1
	}
	return &plainStates{state}
}

func (p *plainStates) below(n int) int {
	const all = uint64(1) << 32
	p.state ^= p.state * (1 << 13) % all
	p.state ^= p.state / (1 << 17)
	p.state ^= p.state * (1 << 5) % all
	return int(p.state % uint64(n))
}

// plainDegree goes from draw to draw: so many of the 1024 have each degree.
func plainDegree(draw, n int) int {
	for _, share := range [][2]int{{1, 16}, {2, 512}, {3, 168}, {4, 84}, {6, 80}, {10, 70}, {18, 50}, {34, 44}} {
		if draw < share[1] {
			return min(share[0], n)
		}
		draw -= share[1]
	}
	return 0
}

// plainParities has of each parity its numbers, as chapter 7 marks them from source to source.
func plainParities(k int) [][]byte {
	s := 1
	for begun := 0; begun < k; begun += 8 {
		s++
	}
	rows := make([][]byte, s+2)
	for j := range rows {
		rows[j] = make([]byte, k)
	}
	first := byte(1)
	for i := range k {
		rows[i%s][i] = 1
		rows[(i+i+i+1)%s][i] = 1
		first = plainMul(first, 2)
		rows[s][i] = first
		rows[s+1][i] = plainMul(first, first)
	}
	return rows
}

// drawn is what is known of one pick: its cell, how many places further it went than it was drawn, and
// whether it went on from 0.
type drawn struct {
	cell   api.Cell
	steps  int
	turned bool
}

// plainDraws keeps a list of the places that are open, and takes the first one of it that isn't ahead of
// what was drawn, or the first of all. The picks are in the order in which they are drawn.
func plainDraws(k int, id uint32) []drawn {
	n := k + len(plainParities(k))
	open := make([]int, n)
	for at := range open {
		open[at] = at
	}
	states := newPlainStates(k, id)
	all := []drawn{}
	for d := plainDegree(states.below(1024), n); d > 0; d-- {
		from := states.below(n)
		i := slices.IndexFunc(open, func(at int) bool { return at >= from })
		turned := i < 0
		if turned {
			i = 0
		}
		at := open[i]
		open = slices.Delete(open, i, i+1)
		c := byte(states.below(255) + 1)
		all = append(all, drawn{api.Cell{At: at, C: c}, (at - from + n) % n, turned})
	}
	return all
}

func plainPicks(k int, id uint32) []api.Cell {
	cells := []api.Cell{}
	for _, d := range plainDraws(k, id) {
		cells = append(cells, d.cell)
	}
	slices.SortFunc(cells, func(a, b api.Cell) int { return a.At - b.At })
	return cells
}

// plainOf goes from source to source.
func plainOf(k int, id uint32) []byte {
	parities := plainParities(k)
	draws := plainDraws(k, id)
	row := make([]byte, k)
	for i := range row {
		for _, d := range draws {
			if d.cell.At == i {
				row[i] ^= d.cell.C
			}
			if d.cell.At >= k {
				row[i] ^= plainMul(d.cell.C, parities[d.cell.At-k][i])
			}
		}
	}
	return row
}

// ids has some IDs: small ones, those at the edges, one bit alone, and some from all over.
func ids() []uint32 {
	all := []uint32{math.MaxUint32, math.MaxUint32 - 1, math.MaxInt32, 0x9e3779b9}
	for i := range uint32(150) {
		all = append(all, i, i*2246822519+77)
	}
	for i := range 32 {
		all = append(all, 1<<i, ^uint32(1<<i))
	}
	return all
}

// outside has numbers of sources that no set has.
func outside() []int {
	return []int{0, -1, -2, -8, -64, 65, 66, 72, 128, 256, math.MaxInt32, math.MinInt32, math.MaxInt, math.MaxInt - 7, math.MinInt}
}

// known has picks and rows that were worked out apart from this program.
func known() []struct {
	k     int
	id    uint32
	picks []api.Cell
	of    []byte
} {
	return []struct {
		k     int
		id    uint32
		picks []api.Cell
		of    []byte
	}{
		{1, 0, []api.Cell{{At: 0, C: 74}, {At: 1, C: 101}, {At: 2, C: 200}, {At: 3, C: 181}, {At: 4, C: 56}}, []byte{112}},
		{1, 1, []api.Cell{{At: 0, C: 90}, {At: 1, C: 62}, {At: 2, C: 214}, {At: 3, C: 11}}, []byte{164}},
		{1, 46, []api.Cell{{At: 4, C: 247}}, []byte{251}},
		{2, 0, []api.Cell{{At: 2, C: 3}, {At: 4, C: 45}}, []byte{89, 183}},
		{3, 0, []api.Cell{{At: 0, C: 4}, {At: 1, C: 191}}, []byte{4, 191, 0}},
		{3, 7, []api.Cell{{At: 1, C: 207}, {At: 6, C: 37}}, []byte{148, 165, 181}},
		{5, 0x80000000, []api.Cell{{At: 2, C: 67}, {At: 4, C: 179}}, []byte{0, 0, 67, 0, 179}},
		{8, 0, []api.Cell{{At: 0, C: 69}, {At: 5, C: 61}}, []byte{69, 0, 0, 0, 0, 61, 0, 0}},
		{8, 5, []api.Cell{{At: 2, C: 73}, {At: 6, C: 225}, {At: 9, C: 30}, {At: 10, C: 205}}, []byte{153, 13, 113, 82, 134, 51, 165, 170}},
		{9, 1, []api.Cell{{At: 5, C: 181}, {At: 6, C: 140}}, []byte{0, 0, 0, 0, 0, 181, 140, 0, 0}},
		{64, math.MaxUint32, []api.Cell{{At: 11, C: 113}, {At: 70, C: 1}}, known64()},
	}
}

// known64 is the row of 113 times the source 11 and of the sparse parity 6 of 9.
func known64() []byte {
	row := make([]byte, 64)
	for _, i := range []int{6, 15, 24, 33, 42, 51, 60} {
		row[i] = 1
	}
	row[11] = 113
	return row
}

func TestPicksKnown(t *testing.T) {
	for _, c := range known() {
		if got := Picks(c.k, c.id); !slices.Equal(got, c.picks) {
			t.Errorf("Picks(%d, %d): %d, not %d", c.k, c.id, got, c.picks)
		}
	}
}

func TestOfKnown(t *testing.T) {
	for _, c := range known() {
		if got := Of(c.k, c.id); !bytes.Equal(got, c.of) {
			t.Errorf("Of(%d, %d): %d, not %d", c.k, c.id, got, c.of)
		}
	}
}

func TestPicksOfEach(t *testing.T) {
	for k := 1; k <= 64; k++ {
		for _, id := range ids() {
			if got, want := Picks(k, id), plainPicks(k, id); !slices.Equal(got, want) {
				t.Fatalf("Picks(%d, %d): %d, not %d", k, id, got, want)
			}
		}
	}
}

func TestOfOfEach(t *testing.T) {
	for k := 1; k <= 64; k++ {
		for _, id := range ids() {
			if got, want := Of(k, id), plainOf(k, id); !bytes.Equal(got, want) {
				t.Fatalf("Of(%d, %d): %d, not %d", k, id, got, want)
			}
		}
	}
}

// The places rise, each is one of the sources and parities, and none has the number 0.
func TestPicksAreInOrder(t *testing.T) {
	for k := 1; k <= 64; k++ {
		n := k + len(plainParities(k))
		for _, id := range ids() {
			last := -1
			picks := Picks(k, id)
			for _, pick := range picks {
				if pick.At <= last || pick.At >= n || pick.C == 0 {
					t.Fatalf("Picks(%d, %d): %d", k, id, picks)
				}
				last = pick.At
			}
			if len(picks) == 0 || len(picks) > 34 {
				t.Fatalf("Picks(%d, %d): %d of them", k, id, len(picks))
			}
		}
	}
}

// A place that is taken is left for the next one behind it, over several, and from 0 on again.
func TestTakenPlaces(t *testing.T) {
	for _, c := range []struct {
		k      int
		id     uint32
		pick   int
		steps  int
		turned bool
		want   []api.Cell
	}{
		// The place 4 is drawn twice, it is the last of 5.
		{1, 2, 2, 1, true, []api.Cell{{At: 0, C: 34}, {At: 3, C: 76}, {At: 4, C: 239}}},
		// The place 11 is the last one, a parity: the source 0 is behind it.
		{8, 8, 1, 1, true, []api.Cell{{At: 0, C: 45}, {At: 11, C: 195}}},
		// The sources 11 and 12 are gone over.
		{20, 294, 3, 2, false, []api.Cell{{At: 11, C: 102}, {At: 12, C: 23}, {At: 13, C: 131}, {At: 16, C: 113}}},
		{64, 2522, 5, 2, false, []api.Cell{{At: 4, C: 114}, {At: 30, C: 16}, {At: 47, C: 136}, {At: 59, C: 109}, {At: 60, C: 87}, {At: 61, C: 241}}},
		// The last places, 3 to 5, are gone over.
		{2, 2, 5, 3, true, []api.Cell{{At: 0, C: 120}, {At: 1, C: 44}, {At: 2, C: 107}, {At: 3, C: 72}, {At: 4, C: 176}, {At: 5, C: 69}}},
		// The last place, 4, and the first ones, 0 and 1, are gone over.
		{1, 0, 4, 3, true, []api.Cell{{At: 0, C: 74}, {At: 1, C: 101}, {At: 2, C: 200}, {At: 3, C: 181}, {At: 4, C: 56}}},
	} {
		draws := plainDraws(c.k, c.id)
		if d := draws[c.pick]; d.steps != c.steps || d.turned != c.turned {
			t.Errorf("k %d, id %d: %d steps, turned %t", c.k, c.id, d.steps, d.turned)
		}
		if got := Picks(c.k, c.id); !slices.Equal(got, c.want) {
			t.Errorf("Picks(%d, %d): %d, not %d", c.k, c.id, got, c.want)
		}
	}
}

// A degree that is all places, or is cut to them, takes each of them.
func TestAllPlacesTaken(t *testing.T) {
	for _, c := range []struct {
		k  int
		id uint32
		n  int
	}{{1, 0, 5}, {2, 2, 6}, {4, 1, 8}, {8, 14, 12}, {9, 6, 14}, {25, 0, 32}, {27, 31, 34}} {
		picks := Picks(c.k, c.id)
		if len(picks) != c.n {
			t.Errorf("Picks(%d, %d): %d, not %d", c.k, c.id, len(picks), c.n)
		}
		for at, pick := range picks {
			if pick.At != at {
				t.Errorf("Picks(%d, %d): %d", c.k, c.id, picks)
				break
			}
		}
	}
}

// Numbers are drawn from 1 to 255: both come.
func TestLeastAndGreatestNumber(t *testing.T) {
	for _, c := range []struct {
		k    int
		id   uint32
		want []api.Cell
	}{
		{3, 319, []api.Cell{{At: 3, C: 116}, {At: 6, C: 1}}},
		{3, 61, []api.Cell{{At: 1, C: 255}, {At: 5, C: 64}}},
		{64, 221, []api.Cell{{At: 3, C: 109}, {At: 7, C: 1}}},
		{64, 337, []api.Cell{{At: 39, C: 178}, {At: 68, C: 255}}},
	} {
		if got := Picks(c.k, c.id); !slices.Equal(got, c.want) {
			t.Errorf("Picks(%d, %d): %d, not %d", c.k, c.id, got, c.want)
		}
	}
}

// These IDs' seeds would begin with the state 0.
func TestSeedOfNoState(t *testing.T) {
	for _, c := range []struct {
		k    int
		id   uint32
		want []api.Cell
	}{
		{1, 1832800802, []api.Cell{{At: 0, C: 114}, {At: 4, C: 217}}},
		{8, 998258513, []api.Cell{{At: 1, C: 217}, {At: 11, C: 114}}},
		{64, 2911854793, []api.Cell{{At: 20, C: 114}, {At: 64, C: 217}}},
	} {
		if got := Picks(c.k, c.id); !slices.Equal(got, c.want) {
			t.Errorf("Picks(%d, %d): %d, not %d", c.k, c.id, got, c.want)
		}
	}
}

func TestOfOneSource(t *testing.T) {
	for _, id := range ids() {
		if got := Of(1, id); len(got) != 1 {
			t.Fatalf("Of(1, %d): %d", id, got)
		}
	}
	// Both sparse parities of one source are the source itself: the number 88 is there twice.
	if got := Picks(1, 730); !slices.Equal(got, []api.Cell{{At: 0, C: 88}, {At: 2, C: 88}}) {
		t.Errorf("Picks(1, 730): %d", got)
	}
	if got := Of(1, 730); !bytes.Equal(got, []byte{0}) {
		t.Errorf("Of(1, 730): %d", got)
	}
}

// A row has all K numbers, also where the last ones are 0.
func TestOfHasEachNumber(t *testing.T) {
	for k := 1; k <= 64; k++ {
		for _, id := range ids() {
			if got := Of(k, id); len(got) != k {
				t.Fatalf("Of(%d, %d): %d numbers", k, id, len(got))
			}
		}
	}
}

func TestNoneOutside(t *testing.T) {
	for _, k := range outside() {
		for _, id := range []uint32{0, 1, 77, math.MaxInt32, math.MaxUint32} {
			if got := Picks(k, id); len(got) != 0 {
				t.Errorf("Picks(%d, %d): %d", k, id, got)
			}
			if got := Of(k, id); len(got) != 0 {
				t.Errorf("Of(%d, %d): %d numbers", k, id, len(got))
			}
		}
	}
}

func TestCellsKnown(t *testing.T) {
	for _, c := range []struct {
		row  []byte
		want []api.Cell
	}{
		{nil, nil},
		{[]byte{}, nil},
		{[]byte{0}, nil},
		{[]byte{0, 0, 0}, nil},
		{[]byte{1}, []api.Cell{{At: 0, C: 1}}},
		{[]byte{255}, []api.Cell{{At: 0, C: 255}}},
		{[]byte{0, 128, 0}, []api.Cell{{At: 1, C: 128}}},
		{[]byte{7, 0, 0, 9}, []api.Cell{{At: 0, C: 7}, {At: 3, C: 9}}},
		{[]byte{3, 2, 1}, []api.Cell{{At: 0, C: 3}, {At: 1, C: 2}, {At: 2, C: 1}}},
		{[]byte{5, 5, 0, 5}, []api.Cell{{At: 0, C: 5}, {At: 1, C: 5}, {At: 3, C: 5}}},
	} {
		if got := Cells(c.row); !slices.Equal(got, c.want) {
			t.Errorf("Cells(%d): %d, not %d", c.row, got, c.want)
		}
	}
}

// One number that isn't 0 is seen at each place, whichever it is; rows may be longer than a set has slices.
func TestCellsAtEachPlace(t *testing.T) {
	for _, size := range []int{1, 2, 64, 65, 300} {
		row := make([]byte, size)
		for at := range row {
			for _, x := range []byte{1, 2, 64, 128, 254, 255} {
				row[at] = x
				if got := Cells(row); !slices.Equal(got, []api.Cell{{At: at, C: x}}) {
					t.Fatalf("%d at %d of %d: %d", x, at, size, got)
				}
			}
			row[at] = 0
		}
	}
}

func TestCellsOfManyNumbers(t *testing.T) {
	row := make([]byte, 1<<20)
	for at := range row {
		row[at] = byte(at)
	}
	got := Cells(row)
	if len(got) != 255<<12 {
		t.Fatalf("%d cells", len(got))
	}
	for i, cell := range got {
		if cell.At != i/255*256+i%255+1 || cell.C != byte(cell.At) {
			t.Fatalf("cell %d: %d", i, cell)
		}
	}
}

// Cells tells all of a row: what it leaves out is 0.
func TestCellsMakeTheRow(t *testing.T) {
	for k := 1; k <= 64; k++ {
		for _, id := range ids()[:40] {
			row := Of(k, id)
			again := make([]byte, k)
			for _, cell := range Cells(row) {
				again[cell.At] = cell.C
			}
			if !bytes.Equal(again, row) {
				t.Fatalf("Of(%d, %d): %d, not %d", k, id, again, row)
			}
		}
	}
}

// Neither the row nor what lies behind it in its memory is changed, and that isn't told.
func TestCellsLeavesTheRow(t *testing.T) {
	memory := []byte{9, 0, 8, 7, 0, 6}
	before := bytes.Clone(memory)
	got := Cells(memory[1:3])
	want := []api.Cell{{At: 1, C: 8}}
	if !slices.Equal(got, want) || !bytes.Equal(memory, before) {
		t.Errorf("%d, %d", got, memory)
	}
	for i := range memory {
		memory[i] = 77
	}
	if !slices.Equal(got, want) {
		t.Error("the cells change with the row")
	}
	if got := Cells(memory[:0]); len(got) != 0 {
		t.Errorf("of no numbers: %d", got)
	}
}

// spoil writes over all of an answer, its spare room too.
func spoil[T any](list []T, with T) {
	list = list[:cap(list)]
	for i := range list {
		list[i] = with
	}
}

func TestAnswersAreNew(t *testing.T) {
	for k := 1; k <= 64; k++ {
		for _, id := range ids()[:20] {
			picks, row := Picks(k, id), Of(k, id)
			cells := Cells(row)
			other := Cells(row)
			spoil(picks, api.Cell{At: -5, C: 200})
			spoil(cells, api.Cell{At: -5, C: 200})
			if !bytes.Equal(row, plainOf(k, id)) {
				t.Fatalf("Of(%d, %d) shares memory", k, id)
			}
			if !slices.Equal(other, Cells(row)) {
				t.Fatalf("Cells of Of(%d, %d) share memory", k, id)
			}
			spoil(row, 99)
			if !slices.Equal(Picks(k, id), plainPicks(k, id)) || !bytes.Equal(Of(k, id), plainOf(k, id)) {
				t.Fatalf("k %d, id %d: the answers change with the last ones", k, id)
			}
		}
	}
}

// No call hangs on the ones ahead of it.
func TestCallsAreByThemselves(t *testing.T) {
	picks, row := Picks(20, 294), Of(20, 294)
	for _, k := range append(outside(), 1, 20, 64) {
		for _, id := range ids()[:50] {
			Picks(k, id)
			Cells(Of(k, id))
			if !slices.Equal(Picks(20, 294), picks) || !bytes.Equal(Of(20, 294), row) {
				t.Fatalf("behind k %d, id %d: not the same again", k, id)
			}
		}
	}
}
