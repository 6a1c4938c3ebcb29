package replay

import (
	"bytes"
	"math"
	"math/rand"
	"slices"
	"testing"

	"geyser/api"
	"geyser/encode"
	"geyser/row"
	"geyser/solve"
)

// products are worked out by long multiplication and division, apart from package field.
var products = func() *[256][256]byte {
	var table [256][256]byte
	for a := range 256 {
		for b := range 256 {
			product := 0
			for bit := range 8 {
				product ^= a << bit * (b >> bit & 1)
			}
			for bit := 14; bit >= 8; bit-- {
				product ^= 0x11d << (bit - 8) * (product >> bit & 1)
			}
			table[a][b] = byte(product)
		}
	}
	return &table
}()

// noSlots are numbers that no board of so many slots has.
func noSlots(count int) []int {
	return []int{-1, -2, -count - 1, count, count + 1, 2*count + 7, 1 << 32, -1 << 32, math.MaxInt, math.MinInt}
}

func deed(to, from int, c byte) solve.Deed { return solve.Deed{To: to, From: from, C: c} }

// plainDo does a deed to slots that are there.
func plainDo(slots [][]byte, d solve.Deed) {
	for i, x := range slots[d.From] {
		if d.To == d.From {
			slots[d.To][i] = 0
		}
		slots[d.To][i] ^= products[d.C][x]
	}
}

func clone(l [][]byte) [][]byte {
	all := make([][]byte, len(l))
	for i := range l {
		all[i] = slices.Clone(l[i])
	}
	return all
}

func same(a, b [][]byte) bool { return slices.EqualFunc(a, b, bytes.Equal) }

// chance makes so many values of a size.
func chance(r *rand.Rand, count, size int) [][]byte {
	values := make([][]byte, count)
	for i := range values {
		values[i] = make([]byte, size)
		r.Read(values[i])
	}
	return values
}

// someDeeds makes deeds of so many slots by chance.
func someDeeds(r *rand.Rand, count, slots int) []solve.Deed {
	deeds := make([]solve.Deed, count)
	for i := range deeds {
		deeds[i] = deed(r.Intn(slots), r.Intn(slots), byte(1+r.Intn(255)))
	}
	return deeds
}

func someWhere(r *rand.Rand, count, slots int) []int {
	where := make([]int, count)
	for i := range where {
		where[i] = r.Intn(slots)
	}
	return where
}

func newBoard(t *testing.T, values [][]byte) *Board {
	t.Helper()
	b, e := NewBoard(values)
	if b == nil || e != api.OK {
		t.Fatalf("NewBoard(%v): %v, %d", values, b, e)
	}
	return b
}

// step does a deed by Add or Scale.
func step(t *testing.T, b *Board, d solve.Deed) {
	t.Helper()
	var e api.Errno
	if d.To == d.From {
		e = b.Scale(d.To, d.C)
	} else {
		e = b.Add(d.To, d.From, d.C)
	}
	if e != api.OK {
		t.Fatalf("%v: %d", d, e)
	}
}

// checkSlots holds all slots of a board against what they should be, and asks for some that aren't there.
func checkSlots(t *testing.T, b *Board, want [][]byte) {
	t.Helper()
	for n := range want {
		if got := b.Slot(n); !bytes.Equal(got, want[n]) {
			t.Fatalf("the slot %d of %d: %v, not %v", n, len(want), got, want[n])
		}
	}
	for _, n := range noSlots(len(want)) {
		if got := b.Slot(n); got != nil {
			t.Fatalf("the slot %d of %d: %v", n, len(want), got)
		}
	}
}

func checkPlay(t *testing.T, s solve.Schedule, values, want [][]byte) {
	t.Helper()
	if got, e := Play(s, values); e != api.OK || !same(got, want) {
		t.Fatalf("Play(%v, %v): %v, %d, not %v", s, values, got, e, want)
	}
}

func checkPlayFails(t *testing.T, s solve.Schedule, values [][]byte) {
	t.Helper()
	if got, e := Play(s, values); e != api.ErrArg || got != nil {
		t.Fatalf("Play(%v, %v): %v, %d", s, values, got, e)
	}
}

// unequal has values of two lengths.
func unequal() [][][]byte {
	l := [][][]byte{
		{{}, {0}},
		{{0}, nil},
		{nil, {}, {1}},
		{{1, 2}, {1}},
		{{1}, {1, 2}},
		{{1, 2}, {3, 4}, {5}},
		{{1, 2}, {3, 4}, {5, 6, 7}},
		{{1}, {3, 4}, {5, 6}},
		{{1, 2}, {3}, {5, 6}},
		{make([]byte, 255), make([]byte, 256)},
		{make([]byte, 1<<16), make([]byte, 1<<16), make([]byte, 1<<16-1)},
	}
	for at := range 40 {
		values := make([][]byte, 40)
		for i := range values {
			values[i] = make([]byte, 9)
		}
		values[at] = make([]byte, 8)
		l = append(l, values)
	}
	return l
}

func TestExample(t *testing.T) {
	for _, values := range [][][]byte{nil, {}, {{}}, {{1, 2}, {3, 4}}} {
		checkPlay(t, solve.Schedule{}, values, nil)
		checkPlay(t, solve.Schedule{Deeds: []solve.Deed{}, Where: []int{}}, values, nil)
	}
}

func TestBoardsOfValues(t *testing.T) {
	r := rand.New(rand.NewSource(1))
	checkSlots(t, newBoard(t, nil), nil)
	for _, count := range []int{0, 1, 2, 3, 64, 255, 256, 257, 1000, 1001, 3000} {
		for _, size := range []int{0, 1, 2, 9, 256, 257, 1000} {
			values := chance(r, count, size)
			checkSlots(t, newBoard(t, values), values)
		}
	}
	checkSlots(t, newBoard(t, [][]byte{nil, {}, nil}), make([][]byte, 3))
	checkSlots(t, newBoard(t, [][]byte{{}, nil}), make([][]byte, 2))
	large := chance(r, 2, 1<<20)
	checkSlots(t, newBoard(t, large), large)
}

func TestValuesOfTwoLengths(t *testing.T) {
	for i, values := range unequal() {
		if b, e := NewBoard(values); b != nil || e != api.ErrArg {
			t.Errorf("case %d: %v, %d", i, b, e)
		}
		checkPlayFails(t, solve.Schedule{}, values)
		checkPlayFails(t, solve.Schedule{Where: []int{0}}, values)
		checkPlayFails(t, solve.Schedule{Deeds: []solve.Deed{deed(0, 0, 1)}, Where: []int{0}}, values)
	}
}

// What lies behind a value in its memory counts for nothing.
func TestLengthsAndSpareRoom(t *testing.T) {
	memory := []byte{1, 2, 3, 4, 5, 6}
	b := newBoard(t, [][]byte{memory[:2], memory[3:5:5]})
	if e := b.Add(0, 1, 1); e != api.OK {
		t.Fatal(e)
	}
	checkSlots(t, b, [][]byte{{1 ^ 4, 2 ^ 5}, {4, 5}})
	if b, e := NewBoard([][]byte{memory[:2:6], memory[:3:6]}); b != nil || e != api.ErrArg {
		t.Error(b, e)
	}
	if !slices.Equal(memory, []byte{1, 2, 3, 4, 5, 6}) {
		t.Error("the values have changed:", memory)
	}
}

// All numbers times all numbers, 0 among them.
func TestAddAndScaleOfAllNumbers(t *testing.T) {
	for c := range 256 {
		values := chance(rand.New(rand.NewSource(int64(c))), 3, 256)
		for x := range 256 {
			values[1][x] = byte(x)
		}
		b, want := newBoard(t, values), clone(values)
		for x := range 256 {
			want[2][x] ^= products[c][x]
		}
		if e := b.Add(2, 1, byte(c)); e != api.OK {
			t.Fatalf("Add of %d times: %d", c, e)
		}
		checkSlots(t, b, want)
		for x := range 256 {
			want[1][x] = products[c][x]
		}
		if e := b.Scale(1, byte(c)); e != api.OK {
			t.Fatalf("Scale by %d: %d", c, e)
		}
		checkSlots(t, b, want)
	}
}

// Steps that were worked out by hand, of a board and of Play.
func TestKnownSteps(t *testing.T) {
	deeds := []solve.Deed{deed(0, 1, 1), deed(2, 1, 2), deed(1, 1, 2), deed(1, 2, 1), deed(2, 1, 0), deed(0, 0, 1),
		deed(2, 2, 142), deed(0, 0, 0)}
	want := [][][]byte{
		{{1, 2}, {1, 128}, {0, 7}},
		{{0, 130}, {1, 128}, {0, 7}},
		{{0, 130}, {1, 128}, {2, 26}},
		{{0, 130}, {2, 29}, {2, 26}},
		{{0, 130}, {0, 7}, {2, 26}},
		{{0, 130}, {0, 7}, {2, 26}},
		{{0, 130}, {0, 7}, {2, 26}},
		{{0, 130}, {0, 7}, {1, 13}},
		{{0, 0}, {0, 7}, {1, 13}},
	}
	b := newBoard(t, want[0])
	checkSlots(t, b, want[0])
	for i, d := range deeds {
		step(t, b, d)
		checkSlots(t, b, want[i+1])
		checkPlay(t, solve.Schedule{Deeds: deeds[:i+1], Where: []int{0, 1, 2}}, want[0], want[i+1])
	}
}

// checkWrongSteps asks of a board with so many slots what it must not do.
func checkWrongSteps(t *testing.T, b *Board, count int) {
	t.Helper()
	wrong := func(what string, to, from int, e api.Errno) {
		t.Helper()
		if e != api.ErrArg {
			t.Errorf("%d slots: %s %d from %d answers %d", count, what, to, from, e)
		}
	}
	for _, c := range []byte{0, 1, 77, 255} {
		for _, n := range noSlots(count) {
			wrong("Scale", n, n, b.Scale(n, c))
			wrong("Add", n, n, b.Add(n, n, c))
			for _, m := range noSlots(count) {
				wrong("Add", n, m, b.Add(n, m, c))
			}
			for at := range count {
				wrong("Add", n, at, b.Add(n, at, c))
				wrong("Add", at, n, b.Add(at, n, c))
			}
		}
		for at := range count {
			wrong("Add", at, at, b.Add(at, at, c))
		}
	}
}

// A call that fails changes nothing.
func TestSlotsThatAreNotThere(t *testing.T) {
	r := rand.New(rand.NewSource(2))
	for _, count := range []int{0, 1, 2, 3, 7} {
		for _, size := range []int{0, 1, 5} {
			values := chance(r, count, size)
			b := newBoard(t, values)
			checkWrongSteps(t, b, count)
			checkSlots(t, b, values)
		}
	}
}

func TestNoBoard(t *testing.T) {
	for _, b := range []*Board{nil, {}, newBoard(t, nil)} {
		checkWrongSteps(t, b, 0)
		checkSlots(t, b, nil)
	}
}

// A board, and Play of all steps so far, hold what plainDo makes of the values.
func TestByChance(t *testing.T) {
	r := rand.New(rand.NewSource(3))
	for range 300 {
		count, size := 1+r.Intn(12), r.Intn(20)
		values := chance(r, count, size)
		b, want := newBoard(t, values), clone(values)
		deeds := someDeeds(r, r.Intn(40), count)
		for _, d := range deeds {
			step(t, b, d)
			plainDo(want, d)
			checkSlots(t, b, want)
		}
		where := someWhere(r, r.Intn(2*count+1), count)
		var picked [][]byte
		for _, n := range where {
			picked = append(picked, want[n])
		}
		checkPlay(t, solve.Schedule{Deeds: deeds, Where: where}, values, picked)
	}
}

// Deeds are done one behind another, in their order: each finds what those ahead of it have left.
func TestOrderOfDeeds(t *testing.T) {
	values := [][]byte{{1}, {2}, {4}}
	there := []int{0, 1, 2}
	to, on, double := deed(1, 0, 1), deed(2, 1, 1), deed(1, 1, 2)
	for _, c := range []struct {
		deeds []solve.Deed
		want  [][]byte
	}{
		{[]solve.Deed{to, on}, [][]byte{{1}, {3}, {7}}},
		{[]solve.Deed{on, to}, [][]byte{{1}, {3}, {6}}},
		{[]solve.Deed{to, double}, [][]byte{{1}, {6}, {4}}},
		{[]solve.Deed{double, to}, [][]byte{{1}, {5}, {4}}},
		{[]solve.Deed{to, to}, values},
		{[]solve.Deed{to, to, to}, [][]byte{{1}, {3}, {4}}},
		{[]solve.Deed{double, double, double}, [][]byte{{1}, {16}, {4}}},
	} {
		checkPlay(t, solve.Schedule{Deeds: c.deeds, Where: there}, values, c.want)
	}
}

// Where names slots in any order, one more than once, and not all of them.
func TestWhere(t *testing.T) {
	values := [][]byte{{1, 1}, {2, 2}, {3, 3}}
	deeds := []solve.Deed{deed(0, 2, 1)}
	for _, c := range []struct {
		where []int
		want  [][]byte
	}{
		{nil, nil},
		{[]int{}, nil},
		{[]int{2}, [][]byte{{3, 3}}},
		{[]int{2, 1, 0}, [][]byte{{3, 3}, {2, 2}, {2, 2}}},
		{[]int{0, 0, 0, 0, 1}, [][]byte{{2, 2}, {2, 2}, {2, 2}, {2, 2}, {2, 2}}},
		{[]int{1, 2, 1, 2, 1}, [][]byte{{2, 2}, {3, 3}, {2, 2}, {3, 3}, {2, 2}}},
	} {
		checkPlay(t, solve.Schedule{Deeds: deeds, Where: c.where}, values, c.want)
	}
	checkPlay(t, solve.Schedule{Where: []int{1, 0}}, [][]byte{nil, {}}, make([][]byte, 2))
}

// Wrong deeds and places, alone and anywhere among right ones.
func TestPlayFails(t *testing.T) {
	r := rand.New(rand.NewSource(4))
	for _, count := range []int{1, 2, 5} {
		for _, size := range []int{0, 1, 6} {
			values := chance(r, count, size)
			deeds, where := someDeeds(r, 9, count), someWhere(r, 9, count)
			for _, n := range noSlots(count) {
				wrong := []solve.Deed{deed(n, 0, 1), deed(0, n, 1), deed(n, n, 1), deed(n, n, 0), deed(0, n, 0), deed(n, n-1, 3)}
				for _, d := range wrong {
					checkPlayFails(t, solve.Schedule{Deeds: []solve.Deed{d}}, values)
					for _, at := range []int{0, 4, 9} {
						with := slices.Insert(slices.Clone(deeds), at, d)
						checkPlayFails(t, solve.Schedule{Deeds: with, Where: where}, values)
					}
				}
				checkPlayFails(t, solve.Schedule{Where: []int{n}}, values)
				for _, at := range []int{0, 4, 9} {
					with := slices.Insert(slices.Clone(where), at, n)
					checkPlayFails(t, solve.Schedule{Deeds: deeds, Where: with}, values)
				}
			}
		}
	}
	for _, n := range []int{0, 1, -1, math.MaxInt, math.MinInt} {
		for _, values := range [][][]byte{nil, {}} {
			checkPlayFails(t, solve.Schedule{Where: []int{n}}, values)
			checkPlayFails(t, solve.Schedule{Deeds: []solve.Deed{deed(n, n, 2)}}, values)
			checkPlayFails(t, solve.Schedule{Deeds: []solve.Deed{deed(n, 0, 2)}}, values)
		}
	}
}

// What layer 11 plans gives the unknowns, whatever they are.
func TestSchedulesOfEquations(t *testing.T) {
	r := rand.New(rand.NewSource(5))
	solved := 0
	for range 400 {
		n, size := 1+r.Intn(20), r.Intn(30)
		unknowns := chance(r, n, size)
		eqs := make([][]api.Cell, n+r.Intn(8))
		values := make([][]byte, len(eqs))
		for i := range eqs {
			values[i] = make([]byte, size)
			for _, at := range r.Perm(n)[:r.Intn(n+1)] {
				cell := api.Cell{At: at, C: byte(1 + r.Intn(255))}
				eqs[i] = append(eqs[i], cell)
				for p, x := range unknowns[at] {
					values[i][p] ^= products[cell.C][x]
				}
			}
		}
		s, e := solve.Solve(eqs, n)
		if e == api.ErrRank {
			continue
		}
		solved++
		checkPlay(t, s, values, unknowns)
	}
	if solved < 200 {
		t.Errorf("just %d of the schedules were played", solved)
	}
}

// A set's sources come back from those that are left, and from symbols, for each number of sources.
func TestSchedulesOfSymbols(t *testing.T) {
	r := rand.New(rand.NewSource(6))
	for k := 1; k <= api.MaxSlices; k++ {
		size := 1 + r.Intn(20)
		sources := chance(r, k, size)
		var eqs [][]api.Cell
		var values [][]byte
		for at := range k {
			if r.Intn(2) == 0 {
				eqs = append(eqs, []api.Cell{{At: at, C: 1}})
				values = append(values, sources[at])
			}
		}
		for id := range uint32(k + 6) {
			symbol, e := encode.Symbol(sources, size, id)
			if e != api.OK {
				t.Fatal(e)
			}
			eqs = append(eqs, row.Cells(row.Of(k, id)))
			values = append(values, symbol)
		}
		s, e := solve.Solve(eqs, k)
		if e != api.OK {
			t.Fatalf("%d sources: %d", k, e)
		}
		checkPlay(t, s, values, sources)
	}
}

func TestOfTheGreatest(t *testing.T) {
	r := rand.New(rand.NewSource(7))
	values := chance(r, 1000, api.MaxSlice)
	deeds, where := someDeeds(r, 20000, 1000), someWhere(r, 5000, 1000)
	want := clone(values)
	for _, d := range deeds {
		plainDo(want, d)
	}
	var picked [][]byte
	for _, n := range where {
		picked = append(picked, want[n])
	}
	checkPlay(t, solve.Schedule{Deeds: deeds, Where: where}, values, picked)
}

// A board keeps none of the values: neither it nor they change with the other.
func TestValuesAreLeft(t *testing.T) {
	memory := make([]byte, 60)
	rand.New(rand.NewSource(8)).Read(memory)
	before := slices.Clone(memory)
	values := make([][]byte, 4, 6)
	for i := range values {
		values[i] = memory[10*i : 10*i+5 : 60]
	}
	// The last one is the first one's memory too.
	values[3] = values[0]
	want := clone(values)
	b := newBoard(t, values)
	deeds := []solve.Deed{deed(0, 1, 9), deed(2, 0, 1), deed(3, 3, 7), deed(1, 3, 200), deed(0, 0, 0)}
	for _, d := range deeds {
		plainDo(want, d)
	}
	s := solve.Schedule{Deeds: deeds, Where: []int{3, 2, 1, 0}}
	checkPlay(t, s, values, [][]byte{want[3], want[2], want[1], want[0]})
	for _, d := range deeds {
		step(t, b, d)
	}
	checkSlots(t, b, want)
	if !slices.Equal(memory, before) || values[:6][4] != nil || values[:6][5] != nil {
		t.Error("the values have changed")
	}
	clear(memory)
	clear(values)
	checkSlots(t, b, want)
}

func TestValuesAreNotKept(t *testing.T) {
	for _, size := range []int{1, 3, 256} {
		values := chance(rand.New(rand.NewSource(9)), 3, size)
		want := clone(values)
		b := newBoard(t, values)
		for i := range values {
			clear(values[i])
		}
		checkSlots(t, b, want)
	}
}

func TestScheduleIsLeft(t *testing.T) {
	deeds := []solve.Deed{deed(0, 1, 3), deed(1, 1, 5), deed(9, 9, 9)}
	where := []int{1, 0, 77}
	s := solve.Schedule{Deeds: deeds[:2], Where: where[:2]}
	got, e := Play(s, [][]byte{{1, 2}, {3, 4}})
	want := clone(got)
	left := slices.Equal(deeds, []solve.Deed{deed(0, 1, 3), deed(1, 1, 5), deed(9, 9, 9)})
	if e != api.OK || !left || !slices.Equal(where, []int{1, 0, 77}) {
		t.Error("the schedule has changed:", deeds, where, e)
	}
	clear(deeds)
	clear(where)
	if !same(got, want) {
		t.Error("the answer changes with the schedule")
	}
}

// fill writes over all memory of a list, its spare room too.
func fill(l []byte) {
	l = l[:cap(l)]
	for i := range l {
		l[i] = 0xee
	}
}

func TestSlotsAreNew(t *testing.T) {
	for _, size := range []int{0, 1, 5, 33, 256} {
		values := chance(rand.New(rand.NewSource(10)), 3, size)
		before := clone(values)
		b, want := newBoard(t, values), clone(values)
		for _, d := range []solve.Deed{deed(0, 1, 1), deed(0, 0, 3), deed(2, 1, 0), deed(1, 1, 1)} {
			for n := range 3 {
				first, second := b.Slot(n), b.Slot(n)
				fill(first)
				if !bytes.Equal(second, want[n]) {
					t.Fatal("two answers share memory")
				}
				checkSlots(t, b, want)
			}
			step(t, b, d)
			plainDo(want, d)
		}
		kept := b.Slot(0)
		b.Scale(0, 99)
		if !bytes.Equal(kept, want[0]) || !same(values, before) {
			t.Fatal("an answer changes with the board")
		}
	}
}

// No two lists of an answer share memory, though they are of one slot, and none shares any with the values.
func TestPlayedAreNew(t *testing.T) {
	for _, deeds := range [][]solve.Deed{nil, {deed(0, 1, 1)}, {deed(0, 0, 1), deed(1, 1, 1)}, {deed(0, 0, 0), deed(0, 1, 1)}} {
		values := [][]byte{{1, 2, 3}, {4, 5, 6}}
		s := solve.Schedule{Deeds: deeds, Where: []int{0, 0, 1, 1, 0}}
		got, e := Play(s, values)
		again, f := Play(s, values)
		want := clone(got)
		if e != api.OK || f != api.OK || !same(again, want) {
			t.Fatal(got, e, again, f)
		}
		for i := range got {
			fill(got[i])
			for j := i + 1; j < len(got); j++ {
				if !bytes.Equal(got[j], want[j]) {
					t.Fatalf("the lists %d and %d share memory", i, j)
				}
			}
		}
		clear(got[:cap(got)])
		if !same(again, want) || !same(values, [][]byte{{1, 2, 3}, {4, 5, 6}}) {
			t.Fatal("an answer shares memory with another one, or with the values")
		}
	}
}

// Each board is by itself, and no call hangs on the ones ahead of it, failed ones among them.
func TestCallsAreByThemselves(t *testing.T) {
	r := rand.New(rand.NewSource(11))
	values := chance(r, 6, 7)
	s := solve.Schedule{Deeds: someDeeds(r, 20, 6), Where: []int{5, 4, 3, 2, 1, 0}}
	want, e := Play(s, values)
	if e != api.OK {
		t.Fatal(e)
	}
	first, second := newBoard(t, values), newBoard(t, values)
	for _, d := range s.Deeds {
		step(t, first, d)
	}
	checkSlots(t, second, values)
	for _, wrong := range unequal() {
		NewBoard(wrong)
		Play(s, wrong)
		Play(solve.Schedule{Where: []int{6}}, values)
		Play(solve.Schedule{Deeds: []solve.Deed{deed(0, 1, 1), deed(0, 6, 1)}}, values)
		checkPlay(t, s, values, want)
		checkSlots(t, second, values)
	}
}

// The calls stand as the chapter has them.
func TestKinds(t *testing.T) {
	var begin func([][]byte) (*Board, api.Errno) = NewBoard
	var play func(solve.Schedule, [][]byte) ([][]byte, api.Errno) = Play
	b, e := begin([][]byte{{3}, {5}})
	if e != api.OK {
		t.Fatal(e)
	}
	var board interface {
		Add(to, from int, c byte) api.Errno
		Scale(to int, c byte) api.Errno
		Slot(n int) []byte
	} = b
	if board.Add(0, 1, 1) != api.OK || board.Scale(0, 1) != api.OK || !bytes.Equal(board.Slot(0), []byte{6}) {
		t.Error(board.Slot(0))
	}
	if got, e := play(solve.Schedule{Where: []int{1}}, [][]byte{{3}, {5}}); e != api.OK || !same(got, [][]byte{{5}}) {
		t.Error(got, e)
	}
}
