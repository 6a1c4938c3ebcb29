package solve

import (
	"bytes"
	"math"
	"math/rand"
	"reflect"
	"slices"
	"testing"

	"geyser/api"
	"geyser/encode"
	"geyser/row"
)

// products are worked out by long multiplication and division, apart from package field.
var products = func() *[256][256]byte {
	var table [256][256]byte
	for a := range 256 {
		for b := range 256 {
			product := 0
			for bit := range 8 {
				product ^= a << bit * (b >> bit & 1)
			}
			for bit := 14; bit >= 8; bit-- {
				product ^= 0x11d << (bit - 8) * (product >> bit & 1)
			}
			table[a][b] = byte(product)
		}
	}
	return &table
}()

func inverse(a byte) byte { return byte(slices.Index(products[a][:], 1)) }

// axpy adds c times b to a.
func axpy(a, b []byte, c byte) {
	for i, x := range b {
		a[i] ^= products[c][x]
	}
}

// matrix gives of each equation its numbers of all unknowns.
func matrix(eqs [][]api.Cell, n int) [][]byte {
	rows := make([][]byte, len(eqs))
	for i, eq := range eqs {
		rows[i] = make([]byte, n)
		for _, cell := range eq {
			rows[i][cell.At] ^= cell.C
		}
	}
	return rows
}

// cells gives a matrix's equations, the cells of each in any order.
func cells(r *rand.Rand, rows [][]byte) [][]api.Cell {
	eqs := make([][]api.Cell, len(rows))
	for i, numbers := range rows {
		for _, at := range r.Perm(len(numbers)) {
			if numbers[at] != 0 {
				eqs[i] = append(eqs[i], api.Cell{At: at, C: numbers[at]})
			}
		}
	}
	return eqs
}

// eq is an equation of these numbers, from the unknown 0 on.
func eq(numbers ...byte) []api.Cell { return row.Cells(numbers) }

// plainRank clears column by column.
func plainRank(rows [][]byte, n int) int {
	left := cloneRows(rows)
	rank := 0
	for at := range n {
		found := slices.IndexFunc(left, func(row []byte) bool { return row[at] != 0 })
		if found < 0 {
			continue
		}
		lead := left[found]
		left = slices.Delete(left, found, found+1)
		back := inverse(lead[at])
		for _, row := range left {
			axpy(row, lead, products[row[at]][back])
		}
		rank++
	}
	return rank
}

func cloneRows(rows [][]byte) [][]byte {
	all := make([][]byte, len(rows))
	for i := range rows {
		all[i] = slices.Clone(rows[i])
	}
	return all
}

func cloneEqs(eqs [][]api.Cell) [][]api.Cell {
	all := make([][]api.Cell, len(eqs))
	for i := range eqs {
		all[i] = slices.Clone(eqs[i])
	}
	return all
}

func sameEqs(a, b [][]api.Cell) bool { return slices.EqualFunc(a, b, slices.Equal) }

func sameSchedule(a, b Schedule) bool {
	return slices.Equal(a.Deeds, b.Deeds) && slices.Equal(a.Where, b.Where)
}

func empty(s Schedule) bool { return sameSchedule(s, Schedule{}) }

// play does the deeds to values, of which it makes the slots, and gives of each unknown its slot.
func play(t *testing.T, s Schedule, values [][]byte) [][]byte {
	t.Helper()
	slots := cloneRows(values)
	for i, d := range s.Deeds {
		switch {
		case d.To < 0 || d.To >= len(slots) || d.From < 0 || d.From >= len(slots) || d.C == 0:
			t.Fatalf("deed %d of %d slots: %v", i, len(slots), d)
		case d.To == d.From:
			for j, x := range slots[d.To] {
				slots[d.To][j] = products[d.C][x]
			}
		default:
			axpy(slots[d.To], slots[d.From], d.C)
		}
	}
	unknowns := make([][]byte, len(s.Where))
	for i, at := range s.Where {
		if at < 0 || at >= len(slots) {
			t.Fatalf("the unknown %d of %d slots: %d", i, len(slots), at)
		}
		unknowns[i] = slots[at]
	}
	return unknowns
}

// unit has 1 at its place, of n.
func unit(n, at int) []byte {
	b := make([]byte, n)
	b[at] = 1
	return b
}

// check holds Rank against plainRank, and Solve against what it must give. The equations' numbers are played as
// their values: those are what the equations have where each unknown's value is a vector of its own, so that a
// schedule that is right of them is right of all values.
func check(t *testing.T, eqs [][]api.Cell, n int) {
	t.Helper()
	checkRank(t, eqs, n, plainRank(matrix(eqs, n), n))
}

func checkRank(t *testing.T, eqs [][]api.Cell, n, rank int) {
	t.Helper()
	if got, e := Rank(eqs, n); e != api.OK || got != rank {
		t.Fatalf("Rank(%v, %d): %d, %d, not %d", eqs, n, got, e, rank)
	}
	s, e := Solve(eqs, n)
	if rank < n {
		if e != api.ErrRank || !empty(s) {
			t.Fatalf("Solve(%v, %d) of the rank %d: %v, %d", eqs, n, rank, s, e)
		}
		return
	}
	if e != api.OK || len(s.Where) != n {
		t.Fatalf("Solve(%v, %d): %v, %d", eqs, n, s, e)
	}
	for at, got := range play(t, s, matrix(eqs, n)) {
		if !bytes.Equal(got, unit(n, at)) {
			t.Fatalf("Solve(%v, %d): %v has %v for the unknown %d", eqs, n, s, got, at)
		}
	}
}

// some makes equations of n unknowns by chance, of at most so many cells.
func some(r *rand.Rand, count, n, most int) [][]api.Cell {
	eqs := make([][]api.Cell, count)
	for i := range eqs {
		for _, at := range r.Perm(n)[:r.Intn(min(n, most)+1)] {
			eqs[i] = append(eqs[i], api.Cell{At: at, C: byte(1 + r.Intn(255))})
		}
	}
	return eqs
}

// chance makes so many rows of n numbers.
func chance(r *rand.Rand, count, n int) [][]byte {
	rows := make([][]byte, count)
	for i := range rows {
		rows[i] = make([]byte, n)
		r.Read(rows[i])
	}
	return rows
}

// times gives the sums of the vectors times each row's numbers.
func times(rows, vectors [][]byte, size int) [][]byte {
	sums := make([][]byte, len(rows))
	for i, numbers := range rows {
		sums[i] = make([]byte, size)
		for j, c := range numbers {
			axpy(sums[i], vectors[j], c)
		}
	}
	return sums
}

// ranked makes so many rows of n numbers that have this rank: unit rows and sums of them, whose other columns
// depend on these, mixed so that few numbers stay 0.
func ranked(r *rand.Rand, count, n, rank int) [][]byte {
	left, right := chance(r, count, rank), chance(r, rank, n)
	for i, at := range r.Perm(count)[:rank] {
		clear(left[at])
		left[at][i] = 1
	}
	for i, at := range r.Perm(n)[:rank] {
		for j := range right {
			right[j][at] = 0
		}
		right[i][at] = 1
	}
	rows := times(left, right, n)
	for range min(20, 2*count) {
		for i := range rows {
			if from := r.Intn(count); from != i {
				axpy(rows[i], rows[from], byte(r.Intn(256)))
			}
		}
	}
	return rows
}

// wrong has what isn't equations of so many unknowns.
func wrong() []struct {
	eqs [][]api.Cell
	n   int
} {
	full := bytes.Repeat([]byte{1}, 257)
	return []struct {
		eqs [][]api.Cell
		n   int
	}{
		{nil, -1},
		{nil, 257},
		{nil, math.MaxInt},
		{nil, math.MinInt},
		{[][]api.Cell{eq(1)}, -1},
		{[][]api.Cell{eq(1)}, 257},
		{[][]api.Cell{eq(1)}, math.MaxInt},
		{make([][]api.Cell, 1001), 0},
		{make([][]api.Cell, 1001), 256},
		{make([][]api.Cell, 1<<20), 3},
		{[][]api.Cell{eq(1)}, 0},
		{[][]api.Cell{eq(0, 1)}, 1},
		{[][]api.Cell{eq(full...)}, 256},
		{[][]api.Cell{{{At: -1, C: 1}}}, 3},
		{[][]api.Cell{{{At: math.MaxInt, C: 1}}}, 256},
		{[][]api.Cell{{{At: math.MinInt, C: 1}}}, 256},
		{[][]api.Cell{{{At: 0, C: 0}}}, 1},
		{[][]api.Cell{{{At: 0, C: 9}, {At: 1, C: 0}}}, 2},
		{[][]api.Cell{{{At: 0, C: 9}, {At: 0, C: 9}}}, 2},
		{[][]api.Cell{{{At: 0, C: 9}, {At: 0, C: 8}}}, 1},
		{[][]api.Cell{{{At: 1, C: 9}, {At: 0, C: 9}, {At: 1, C: 8}}}, 2},
		// Those ahead of the wrong one give all unknowns.
		{[][]api.Cell{eq(1), eq(0, 1), eq(1, 1, 1)}, 2},
		{[][]api.Cell{eq(1), eq(0, 1), {{At: 0}}}, 2},
		{[][]api.Cell{eq(1), eq(0, 1), {{At: -1, C: 1}}}, 2},
		{[][]api.Cell{eq(1), eq(0, 1), {{At: 1, C: 1}, {At: 1, C: 1}}}, 2},
		{append([][]api.Cell{eq(1), eq(0, 1)}, make([][]api.Cell, 999)...), 2},
		// Behind it there aren't enough.
		{[][]api.Cell{{{At: 7, C: 1}}, eq(1), eq(1)}, 7},
		{[][]api.Cell{make([]api.Cell, 1<<20)}, 256},
	}
}

func TestExample(t *testing.T) {
	s, e := Solve([][]api.Cell{{{At: 0, C: 2}}}, 1)
	want := Schedule{Deeds: []Deed{{To: 0, From: 0, C: 142}}, Where: []int{0}}
	if e != api.OK || !sameSchedule(s, want) {
		t.Errorf("%v, %d, not %v", s, e, want)
	}
}

func TestWrong(t *testing.T) {
	for i, c := range wrong() {
		if got, e := Rank(c.eqs, c.n); e != api.ErrArg || got != 0 {
			t.Errorf("case %d: the rank is %d, %d", i, got, e)
		}
		if got, e := Solve(c.eqs, c.n); e != api.ErrArg || !empty(got) {
			t.Errorf("case %d: %v, %d", i, got, e)
		}
	}
}

// Ranks that were worked out by hand.
func TestKnown(t *testing.T) {
	for i, c := range []struct {
		eqs     [][]api.Cell
		n, rank int
	}{
		{nil, 0, 0},
		{[][]api.Cell{{}, nil, {}}, 0, 0},
		{nil, 1, 0},
		{nil, 256, 0},
		{[][]api.Cell{nil, {}}, 2, 0},
		{[][]api.Cell{eq(7)}, 1, 1},
		{[][]api.Cell{eq(7)}, 2, 1},
		{[][]api.Cell{eq(0, 7)}, 2, 1},
		{[][]api.Cell{eq(7), eq(9)}, 1, 1},
		{[][]api.Cell{eq(1, 2), eq(2, 4)}, 2, 1},
		{[][]api.Cell{eq(1, 128), eq(2, 29)}, 2, 1},
		{[][]api.Cell{eq(1, 128), eq(2, 28)}, 2, 2},
		{[][]api.Cell{eq(1), eq(1, 1)}, 2, 2},
		{[][]api.Cell{eq(1, 1), eq(0, 1)}, 2, 2},
		{[][]api.Cell{eq(1, 1), eq(1, 1)}, 2, 1},
		{[][]api.Cell{eq(1, 1), eq(1, 2)}, 2, 2},
		{[][]api.Cell{{{At: 1, C: 3}, {At: 0, C: 5}}, {{At: 0, C: 5}, {At: 1, C: 3}}}, 2, 1},
		// Of numbers modulo 2, or of whole ones, this rank would be another one.
		{[][]api.Cell{eq(1, 1), eq(0, 1, 1), eq(1, 0, 1)}, 3, 2},
		{[][]api.Cell{eq(1, 1), eq(0, 1, 1), eq(1, 0, 2)}, 3, 3},
		{[][]api.Cell{eq(1, 2, 3), eq(4, 5, 6), eq(5, 7, 5)}, 3, 2},
		{[][]api.Cell{eq(1, 2, 3), eq(4, 5, 6), eq(5, 7, 9)}, 3, 3},
		{[][]api.Cell{eq(0, 0, 1), eq(0, 1), eq(1)}, 3, 3},
		{[][]api.Cell{eq(0, 0, 1), eq(0, 1), eq(1)}, 4, 3},
		{[][]api.Cell{eq(0, 1), eq(0, 0, 1), eq(0, 1, 1)}, 3, 2},
		{[][]api.Cell{eq(1, 1, 1), eq(1, 2, 4), eq(1, 4, 16)}, 3, 3},
		{[][]api.Cell{{}, eq(1, 1, 1), eq(1, 1, 1), nil, eq(1, 2, 4), eq(0, 3, 5), eq(1, 4, 16), eq(3)}, 3, 3},
	} {
		checkRank(t, c.eqs, c.n, c.rank)
		if got := plainRank(matrix(c.eqs, c.n), c.n); got != c.rank {
			t.Errorf("case %d: the plain rank is %d, not %d", i, got, c.rank)
		}
	}
}

// Each number has its inverse; without unknowns there is nothing to do.
func TestOfOneUnknown(t *testing.T) {
	for c := 1; c < 256; c++ {
		check(t, [][]api.Cell{eq(byte(c))}, 1)
		for _, d := range []byte{1, 2, 77, 255} {
			check(t, [][]api.Cell{nil, eq(byte(c)), eq(d), eq(byte(c))}, 1)
			check(t, [][]api.Cell{eq(byte(c), d), eq(d, byte(c))}, 2)
			check(t, [][]api.Cell{eq(byte(c), d), eq(d)}, 2)
		}
	}
	for _, eqs := range [][][]api.Cell{nil, {}, {nil}, make([][]api.Cell, 1000)} {
		if s, e := Solve(eqs, 0); e != api.OK || !empty(s) {
			t.Errorf("%d equations of no unknowns: %v, %d", len(eqs), s, e)
		}
	}
}

// all gives all rows of n numbers out of these.
func all(numbers []byte, n int) [][]byte {
	rows := [][]byte{{}}
	for range n {
		var longer [][]byte
		for _, row := range rows {
			for _, c := range numbers {
				longer = append(longer, append(slices.Clone(row), c))
			}
		}
		rows = longer
	}
	return rows
}

// All lists of up to so many equations.
func TestAllOfFewUnknowns(t *testing.T) {
	for _, c := range []struct {
		numbers  []byte
		n, count int
	}{
		{[]byte{0, 1, 2, 3}, 2, 3},
		{[]byte{0, 1, 2, 77, 142, 255}, 2, 2},
		{[]byte{0, 1, 142}, 3, 3},
		{[]byte{0, 1}, 3, 4},
		{[]byte{0, 1}, 4, 3},
	} {
		lists := [][][]api.Cell{{}}
		for range c.count {
			var longer [][][]api.Cell
			for _, list := range lists {
				check(t, list, c.n)
				for _, numbers := range all(c.numbers, c.n) {
					longer = append(longer, append(slices.Clone(list), eq(numbers...)))
				}
			}
			lists = longer
		}
		for _, list := range lists {
			check(t, list, c.n)
		}
	}
}

func TestByChance(t *testing.T) {
	r := rand.New(rand.NewSource(1))
	for i := range 4000 {
		n := 1 + r.Intn(12)
		check(t, some(r, r.Intn(2*n+4), n, 1+i%6), n)
	}
	for i := range 200 {
		n := 1 + r.Intn(60)
		check(t, some(r, n/2+r.Intn(2*n), n, 1+i%20), n)
	}
}

func TestOfKnownRank(t *testing.T) {
	r := rand.New(rand.NewSource(2))
	for range 600 {
		n, count := 1+r.Intn(24), 1+r.Intn(30)
		rank := min(n, count)
		if r.Intn(3) == 0 {
			rank = r.Intn(rank + 1)
		}
		checkRank(t, cells(r, ranked(r, count, n, rank)), n, rank)
	}
}

func TestOfEachNumberOfUnknowns(t *testing.T) {
	r := rand.New(rand.NewSource(3))
	for n := -5; n <= 300; n++ {
		got, e := Rank(nil, n)
		s, f := Solve(nil, n)
		want, short := api.OK, api.ErrRank
		switch {
		case n < 0 || n > 256:
			want, short = api.ErrArg, api.ErrArg
		case n == 0:
			short = api.OK
		}
		if got != 0 || e != want || !empty(s) || f != short {
			t.Errorf("no equation of %d unknowns: %d, %d; %v, %d", n, got, e, s, f)
		}
		if want == api.OK {
			check(t, some(r, n+n/2, n, 4), n)
		}
		if want == api.OK && n%16 == 0 {
			check(t, some(r, n+6, n, 12), n)
		}
	}
}

func TestOfManyEquations(t *testing.T) {
	for _, count := range []int{4, 5, 6, 999, 1000, 1001, 1002, 2000} {
		eqs := make([][]api.Cell, count)
		for i := range eqs {
			eqs[i] = []api.Cell{{At: i % 5, C: byte(1 + i%255)}, {At: (i + 1) % 5, C: byte(1 + i%7)}}
		}
		if count <= 1000 {
			check(t, eqs, 5)
			continue
		}
		if got, e := Rank(eqs, 5); got != 0 || e != api.ErrArg {
			t.Errorf("%d equations: the rank is %d, %d", count, got, e)
		}
		if s, e := Solve(eqs, 5); !empty(s) || e != api.ErrArg {
			t.Errorf("%d equations: %v, %d", count, s, e)
		}
	}
}

// A chain is solved from its one equation with one unknown on; without that its rank is too low by 1.
func TestChain(t *testing.T) {
	for _, n := range []int{1, 2, 3, 100, 256} {
		for _, begin := range []int{0, n / 2, n - 1} {
			var eqs [][]api.Cell
			for at := 1; at < n; at++ {
				eqs = append(eqs, []api.Cell{{At: at, C: byte(at)}, {At: at - 1, C: byte(256 - at)}})
			}
			checkRank(t, eqs, n, n-1)
			eqs = append(eqs, []api.Cell{{At: begin, C: 99}})
			checkRank(t, eqs, n, n)
			slices.Reverse(eqs)
			checkRank(t, eqs, n, n)
		}
	}
}

// An unknown that is in no equation lowers the rank, whatever the others are.
func TestUnknownInNoEquation(t *testing.T) {
	r := rand.New(rand.NewSource(4))
	for _, n := range []int{1, 2, 9, 40} {
		for at := range n {
			rows := ranked(r, n+3, n-1, n-1)
			for i := range rows {
				rows[i] = slices.Insert(rows[i], at, 0)
			}
			checkRank(t, cells(r, rows), n, n-1)
		}
	}
}

// Equations that tell nothing new change nothing: neither multiples of others, nor their sums, nor empty ones.
func TestMoreThanEnough(t *testing.T) {
	r := rand.New(rand.NewSource(5))
	for range 200 {
		n := 1 + r.Intn(12)
		rank := n - r.Intn(2)
		rows := ranked(r, n, n, rank)
		rows = append(rows, times(chance(r, r.Intn(30), n), rows, n)...)
		rows = append(rows, make([]byte, n), slices.Clone(rows[0]))
		r.Shuffle(len(rows), func(i, j int) { rows[i], rows[j] = rows[j], rows[i] })
		checkRank(t, cells(r, rows), n, rank)
	}
}

func TestOfTheGreatest(t *testing.T) {
	r := rand.New(rand.NewSource(6))
	checkRank(t, cells(r, ranked(r, 1000, 256, 256)), 256, 256)
	checkRank(t, cells(r, ranked(r, 256, 256, 256)), 256, 256)
	checkRank(t, cells(r, ranked(r, 300, 256, 255)), 256, 255)
	checkRank(t, cells(r, ranked(r, 1000, 256, 7)), 256, 7)
	for _, most := range []int{1, 2, 3, 5, 9, 30} {
		check(t, some(r, 1000, 256, most), 256)
	}
}

// Whatever values the unknowns have, of any length, they come back from those of the equations.
func TestOfAllValues(t *testing.T) {
	r := rand.New(rand.NewSource(7))
	for i := range 300 {
		n, size := 1+r.Intn(20), r.Intn(30)
		rows := ranked(r, n+r.Intn(5), n, n)
		if i%2 == 0 {
			rows = matrix(some(r, 3*n, n, 4), n)
		}
		s, e := Solve(cells(r, rows), n)
		if i%2 == 0 && plainRank(rows, n) < n {
			continue
		}
		if e != api.OK {
			t.Fatalf("%v: %d", rows, e)
		}
		unknowns := chance(r, n, size)
		got := play(t, s, times(rows, unknowns, size))
		if !slices.EqualFunc(got, unknowns, bytes.Equal) {
			t.Fatalf("%v: %v, not %v", rows, got, unknowns)
		}
	}
}

// What a set's sources come back from: those that are left, and symbols.
func TestOfSymbols(t *testing.T) {
	r := rand.New(rand.NewSource(8))
	for k := 1; k <= api.MaxSlices; k++ {
		sources := chance(r, k, 5)
		var eqs [][]api.Cell
		var values [][]byte
		for at := range k {
			if r.Intn(2) == 0 {
				eqs = append(eqs, []api.Cell{{At: at, C: 1}})
				values = append(values, sources[at])
			}
		}
		for id := range uint32(k + 6) {
			symbol, e := encode.Symbol(sources, 5, id)
			if e != api.OK {
				t.Fatal(e)
			}
			eqs = append(eqs, row.Cells(row.Of(k, id)))
			values = append(values, symbol)
		}
		check(t, eqs, k)
		s, e := Solve(eqs, k)
		if e != api.OK {
			t.Fatalf("%d sources: %d", k, e)
		}
		if got := play(t, s, values); !slices.EqualFunc(got, sources, bytes.Equal) {
			t.Fatalf("%d sources: %v, not %v", k, got, sources)
		}
	}
}

// The order of an equation's cells changes nothing.
func TestOrderOfCells(t *testing.T) {
	r := rand.New(rand.NewSource(9))
	for range 100 {
		rows := ranked(r, 12, 9, 9)
		want, e := Solve(cells(r, rows), 9)
		if e != api.OK {
			t.Fatal(e)
		}
		if got, e := Solve(cells(r, rows), 9); e != api.OK || !sameSchedule(got, want) {
			t.Fatalf("%v: %v, %d, not %v", rows, got, e, want)
		}
	}
}

// What lies behind an equation in its memory counts for nothing, and nothing of an argument changes.
func TestArgumentsAreLeft(t *testing.T) {
	memory := slices.Concat(eq(3, 4), eq(5, 6, 7), eq(0, 0, 9), eq(8, 0, 2))
	before := slices.Clone(memory)
	eqs := append(make([][]api.Cell, 0, 9), memory[:2], memory[2:5], memory[5:6], memory[6:6], nil)
	plain := cloneEqs(eqs)
	check(t, eqs, 3)
	checkRank(t, eqs, 4, 3)
	if !slices.Equal(memory, before) || !sameEqs(eqs, plain) {
		t.Error("the equations have changed")
	}
	for _, spare := range eqs[5:9] {
		if spare != nil {
			t.Error("the spare room has changed")
		}
	}
	got, e := Solve(eqs, 3)
	want := Schedule{Deeds: slices.Clone(got.Deeds), Where: slices.Clone(got.Where)}
	clear(memory)
	clear(eqs[:9])
	if e != api.OK || !sameSchedule(got, want) {
		t.Error("the schedule changes with the equations")
	}
}

func TestAnswersAreNew(t *testing.T) {
	r := rand.New(rand.NewSource(10))
	for range 50 {
		eqs := cells(r, ranked(r, 14, 10, 10))
		before := cloneEqs(eqs)
		first, _ := Solve(eqs, 10)
		deeds, where := slices.Clone(first.Deeds), slices.Clone(first.Where)
		second, _ := Solve(eqs, 10)
		for i := range cap(first.Deeds) {
			first.Deeds[:cap(first.Deeds)][i] = Deed{-7, -7, 7}
		}
		if !slices.Equal(first.Where, where) || !sameSchedule(second, Schedule{deeds, where}) || !sameEqs(eqs, before) {
			t.Fatal("the deeds share memory")
		}
		for i := range cap(second.Where) {
			second.Where[:cap(second.Where)][i] = -7
		}
		if !slices.Equal(first.Where, where) || !slices.Equal(second.Deeds, deeds) || !sameEqs(eqs, before) {
			t.Fatal("the places share memory")
		}
	}
}

// No call hangs on the ones ahead of it, failed ones among them.
func TestCallsAreByThemselves(t *testing.T) {
	r := rand.New(rand.NewSource(11))
	eqs := cells(r, ranked(r, 12, 9, 9))
	want, e := Solve(eqs, 9)
	if e != api.OK {
		t.Fatal(e)
	}
	for i, c := range wrong() {
		Rank(c.eqs, c.n)
		Solve(c.eqs, c.n)
		Solve(some(r, 12, 9, 3), 9)
		Solve(nil, 4)
		got, e := Solve(eqs, 9)
		rank, f := Rank(eqs, 9)
		if e != api.OK || !sameSchedule(got, want) || rank != 9 || f != api.OK {
			t.Fatalf("behind case %d: %v, %d; %d, %d", i, got, e, rank, f)
		}
	}
}

// The kinds stand as the chapter has them.
func TestKinds(t *testing.T) {
	d := Deed{1, 2, byte(3)}
	s := Schedule{[]Deed{d}, []int{4}}
	want := Schedule{Where: []int{4}, Deeds: []Deed{{C: 3, From: 2, To: 1}}}
	if !reflect.DeepEqual(s, want) {
		t.Error(s)
	}
}
