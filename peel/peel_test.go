package peel

import (
	"math"
	"math/rand"
	"slices"
	"testing"

	"geyser/api"
)

// eq is an equation of these unknowns, in this order; their numbers go from 1 to 255 and round again.
func eq(places ...int) []api.Cell {
	cells := []api.Cell{}
	for i, at := range places {
		cells = append(cells, api.Cell{At: at, C: byte(1 + (at*7+i)%255)})
	}
	return cells
}

// plainPeel goes through all equations at each step, and takes the first of those with the fewest open unknowns.
func plainPeel(eqs [][]api.Cell, n int) Order {
	var order Order
	closed := map[int]struct{}{}
	openOf := func(i int) []int {
		places := []int{}
		for at := range n {
			has := slices.ContainsFunc(eqs[i], func(c api.Cell) bool { return c.At == at })
			if _, shut := closed[at]; has && !shut {
				places = append(places, at)
			}
		}
		return places
	}
	for {
		best, places := -1, []int{}
		for i := range eqs {
			if open := openOf(i); len(open) > 0 && (best < 0 || len(open) < len(places)) {
				best, places = i, open
			}
		}
		if best < 0 {
			break
		}
		order.Pivots = append(order.Pivots, Pivot{best, places[0]})
		order.Held = append(order.Held, places[1:]...)
		for _, at := range places {
			closed[at] = struct{}{}
		}
	}
	for at := range n {
		if _, shut := closed[at]; !shut {
			order.Left = append(order.Left, at)
		}
	}
	return order
}

func same(a, b Order) bool {
	return slices.Equal(a.Pivots, b.Pivots) && slices.Equal(a.Held, b.Held) && slices.Equal(a.Left, b.Left)
}

func empty(a Order) bool { return same(a, Order{}) }

func clone(eqs [][]api.Cell) [][]api.Cell {
	all := make([][]api.Cell, len(eqs))
	for i := range eqs {
		all[i] = slices.Clone(eqs[i])
	}
	return all
}

func sameEqs(a, b [][]api.Cell) bool { return slices.EqualFunc(a, b, slices.Equal) }

// some makes equations of n unknowns by chance, of at most so many cells, in any order.
func some(r *rand.Rand, count, n, most int) [][]api.Cell {
	eqs := make([][]api.Cell, count)
	for i := range eqs {
		eqs[i] = eq(r.Perm(n)[:r.Intn(min(n, most)+1)]...)
	}
	return eqs
}

// check holds what Peel answers against plainPeel, and against what follows of it.
func check(t *testing.T, eqs [][]api.Cell, n int) {
	t.Helper()
	if !Right(eqs, n) {
		t.Fatalf("%v of %d unknowns aren't right", eqs, n)
	}
	got, e := Peel(eqs, n)
	if want := plainPeel(eqs, n); e != api.OK || !same(got, want) {
		t.Fatalf("%v of %d unknowns: %v, %d, not %v", eqs, n, got, e, want)
	}
	follows(t, eqs, n, got)
}

// follows is P10.2, and that no equation is used twice, nor has an open unknown in the end.
func follows(t *testing.T, eqs [][]api.Cell, n int, order Order) {
	t.Helper()
	all := append(slices.Clone(order.Held), order.Left...)
	used := make([]bool, len(eqs))
	for i, p := range order.Pivots {
		all = append(all, p.At)
		if used[p.Eq] {
			t.Fatalf("equation %d is used twice", p.Eq)
		}
		used[p.Eq] = true
		has := func(c api.Cell) bool { return c.At == p.At }
		if !slices.ContainsFunc(eqs[p.Eq], has) {
			t.Fatalf("the pivot %v isn't in its equation", p)
		}
		for _, ahead := range order.Pivots[:i] {
			if slices.ContainsFunc(eqs[ahead.Eq], has) {
				t.Fatalf("the pivot %v is in the equation %d, used ahead of it", p, ahead.Eq)
			}
		}
	}
	slices.Sort(all)
	for at := range n {
		if len(all) != n || all[at] != at {
			t.Fatalf("of %d unknowns there are %v", n, all)
		}
	}
	for i := range eqs {
		for _, cell := range eqs[i] {
			if slices.Contains(order.Left, cell.At) {
				t.Fatalf("the unknown %d of the equation %d is left", cell.At, i)
			}
		}
	}
	if !slices.IsSorted(order.Left) {
		t.Fatalf("left are %v", order.Left)
	}
}

// known has orders that were worked out apart from this program.
func known() []struct {
	eqs  [][]api.Cell
	n    int
	want Order
} {
	return []struct {
		eqs  [][]api.Cell
		n    int
		want Order
	}{
		{nil, 0, Order{}},
		{[][]api.Cell{{}, nil, {}}, 0, Order{}},
		{nil, 3, Order{Left: []int{0, 1, 2}}},
		{[][]api.Cell{nil, {}}, 2, Order{Left: []int{0, 1}}},
		{[][]api.Cell{eq(0), eq(0, 1)}, 2, Order{Pivots: []Pivot{{0, 0}, {1, 1}}}},
		{[][]api.Cell{eq(0, 1), eq(0)}, 2, Order{Pivots: []Pivot{{1, 0}, {0, 1}}}},
		{[][]api.Cell{eq(1, 0)}, 2, Order{Pivots: []Pivot{{0, 0}}, Held: []int{1}}},
		{[][]api.Cell{eq(2, 0, 1)}, 4, Order{Pivots: []Pivot{{0, 0}}, Held: []int{1, 2}, Left: []int{3}}},
		{[][]api.Cell{eq(), eq(1), eq(), eq(1), eq(1, 0)}, 3,
			Order{Pivots: []Pivot{{1, 1}, {4, 0}}, Left: []int{2}}},
		{[][]api.Cell{eq(0, 2), eq(1, 2), eq(0, 1)}, 3,
			Order{Pivots: []Pivot{{0, 0}, {1, 1}}, Held: []int{2}}},
		{[][]api.Cell{eq(0, 1, 2), eq(0, 1, 3), eq(0, 1, 4)}, 5,
			Order{Pivots: []Pivot{{0, 0}, {1, 3}, {2, 4}}, Held: []int{1, 2}}},
		{[][]api.Cell{eq(0, 1, 2), eq(1, 2, 3), eq(3, 4), eq(0, 4)}, 5,
			Order{Pivots: []Pivot{{2, 3}, {3, 0}, {0, 1}}, Held: []int{4, 2}}},
		{[][]api.Cell{eq(0, 1, 2), eq(2, 3, 4), eq(4, 5, 0)}, 6,
			Order{Pivots: []Pivot{{0, 0}, {1, 3}, {2, 5}}, Held: []int{1, 2, 4}}},
		{[][]api.Cell{eq(5, 3, 1), eq(4, 2, 0), eq(5, 0), eq(2), eq(2, 3)}, 7,
			Order{Pivots: []Pivot{{3, 2}, {4, 3}, {0, 1}, {2, 0}, {1, 4}}, Held: []int{5}, Left: []int{6}}},
		{[][]api.Cell{eq(0, 1, 2, 3), eq(3, 4, 5, 6), eq(6, 7, 0, 2), eq(1, 4), eq(8, 9), eq(9)}, 11,
			Order{
				Pivots: []Pivot{{5, 9}, {4, 8}, {3, 1}, {0, 0}, {1, 5}, {2, 7}},
				Held:   []int{4, 2, 3, 6},
				Left:   []int{10},
			}},
	}
}

// wrong has what isn't equations of so many unknowns.
func wrong() []struct {
	eqs [][]api.Cell
	n   int
} {
	full := make([]int, 256)
	for at := range full {
		full[at] = at
	}
	return []struct {
		eqs [][]api.Cell
		n   int
	}{
		{nil, -1},
		{nil, 257},
		{nil, math.MaxInt},
		{nil, math.MinInt},
		{[][]api.Cell{eq(0)}, -1},
		{[][]api.Cell{eq(0)}, 257},
		{[][]api.Cell{eq(0)}, math.MaxInt},
		{make([][]api.Cell, 1001), 0},
		{make([][]api.Cell, 1001), 256},
		{make([][]api.Cell, 1<<20), 3},
		{[][]api.Cell{{{At: 0, C: 1}}}, 0},
		{[][]api.Cell{{{At: 1, C: 1}}}, 1},
		{[][]api.Cell{{{At: 256, C: 1}}}, 256},
		{[][]api.Cell{{{At: -1, C: 1}}}, 3},
		{[][]api.Cell{{{At: math.MaxInt, C: 1}}}, 256},
		{[][]api.Cell{{{At: math.MinInt, C: 1}}}, 256},
		{[][]api.Cell{{{At: 0, C: 0}}}, 1},
		{[][]api.Cell{{{At: 0, C: 9}, {At: 1, C: 0}}}, 2},
		{[][]api.Cell{{{At: 0, C: 9}, {At: 0, C: 9}}}, 2},
		{[][]api.Cell{{{At: 1, C: 9}, {At: 0, C: 9}, {At: 1, C: 8}}}, 2},
		{[][]api.Cell{eq(0), {}, eq(1, 2), eq(2, 3)}, 3},
		{[][]api.Cell{eq(0), {}, eq(1, 2), append(eq(2, 0), api.Cell{At: 1})}, 3},
		{[][]api.Cell{eq(0), {}, eq(1, 2), eq(2, 0, 2)}, 3},
		{[][]api.Cell{eq(2, 0, 2), eq(0), {}, eq(1, 2)}, 3},
		{[][]api.Cell{eq(append(full, 255)...)}, 256},
		{[][]api.Cell{eq(append([]int{0}, full...)...)}, 256},
		{append(make([][]api.Cell, 999), eq(5, 5)), 256},
		{[][]api.Cell{make([]api.Cell, 1<<20)}, 256},
	}
}

func TestPeelKnown(t *testing.T) {
	for i, c := range known() {
		got, e := Peel(c.eqs, c.n)
		if e != api.OK || !same(got, c.want) {
			t.Errorf("case %d: %v, %d, not %v", i, got, e, c.want)
		}
		if !Right(c.eqs, c.n) {
			t.Errorf("case %d isn't right", i)
		}
		check(t, c.eqs, c.n)
	}
}

func TestWrong(t *testing.T) {
	for i, c := range wrong() {
		if Right(c.eqs, c.n) {
			t.Errorf("case %d is right", i)
		}
		if got, e := Peel(c.eqs, c.n); e != api.ErrArg || !empty(got) {
			t.Errorf("case %d: %v, %d", i, got, e)
		}
	}
}

// Of one equation of one cell all is asked, up to the edges.
func TestRightOfOneCell(t *testing.T) {
	for _, n := range []int{0, 1, 2, 3, 255, 256} {
		for at := -2; at <= 258; at++ {
			for _, c := range []byte{0, 1, 2, 128, 255} {
				want := at >= 0 && at < n && c != 0
				eqs := [][]api.Cell{{{At: at, C: c}}}
				if got := Right(eqs, n); got != want {
					t.Fatalf("%v of %d unknowns: %v", eqs, n, got)
				}
				if _, e := Peel(eqs, n); (e == api.OK) != want {
					t.Fatalf("%v of %d unknowns: %d", eqs, n, e)
				}
			}
		}
	}
}

func TestRightOfEachNumber(t *testing.T) {
	for n := -5; n <= 300; n++ {
		want := n >= 0 && n <= 256
		if Right(nil, n) != want || Right([][]api.Cell{{}, nil}, n) != want {
			t.Errorf("%d unknowns: not %v", n, want)
		}
		got, e := Peel(nil, n)
		if want && (e != api.OK || !same(got, plainPeel(nil, n))) || !want && (e != api.ErrArg || !empty(got)) {
			t.Errorf("%d unknowns: %v, %d", n, got, e)
		}
	}
}

func TestRightOfManyEquations(t *testing.T) {
	for _, count := range []int{0, 1, 999, 1000, 1001, 1002, 2000} {
		eqs := make([][]api.Cell, count)
		for i := range eqs {
			eqs[i] = eq(i % 5)
		}
		want := count <= 1000
		if Right(eqs, 5) != want {
			t.Errorf("%d equations: not %v", count, want)
		}
		got, e := Peel(eqs, 5)
		if want && (e != api.OK || !same(got, plainPeel(eqs, 5))) || !want && (e != api.ErrArg || !empty(got)) {
			t.Errorf("%d equations: %v, %d", count, got, e)
		}
	}
}

// A place may stand in many equations, but once in each; equations may be alike.
func TestRightOfTwoCells(t *testing.T) {
	for a := range 6 {
		for b := range 6 {
			eqs := [][]api.Cell{{{At: a, C: 3}, {At: b, C: 4}}}
			if Right(eqs, 6) != (a != b) {
				t.Errorf("%d and %d: not %v", a, b, a != b)
			}
			check(t, [][]api.Cell{{{At: a, C: 3}}, {{At: b, C: 4}}, {{At: a, C: 3}}}, 6)
		}
	}
}

// All lists of up to four equations of three unknowns.
func TestAllOfThreeUnknowns(t *testing.T) {
	ways := [][]int{{}, {0}, {1}, {2}, {1, 0}, {0, 2}, {2, 1}, {1, 2, 0}}
	lists := [][][]api.Cell{{}}
	for range 4 {
		var longer [][][]api.Cell
		for _, list := range lists {
			check(t, list, 3)
			for _, way := range ways {
				longer = append(longer, append(slices.Clone(list), eq(way...)))
			}
		}
		lists = longer
	}
	for _, list := range lists {
		check(t, list, 3)
	}
}

func TestByChance(t *testing.T) {
	r := rand.New(rand.NewSource(10))
	for i := range 4000 {
		check(t, some(r, r.Intn(14), 1+r.Intn(12), 1+i%6), 12)
	}
	for i := range 300 {
		n := 1 + r.Intn(80)
		check(t, some(r, r.Intn(90), n, 1+i%20), n)
	}
}

func TestOfEachNumberOfUnknowns(t *testing.T) {
	r := rand.New(rand.NewSource(11))
	for n := range 257 {
		check(t, some(r, 20, n, 8), n)
	}
}

// The order of an equation's cells, and their numbers, change nothing.
func TestOrderOfCells(t *testing.T) {
	r := rand.New(rand.NewSource(12))
	for range 300 {
		eqs := some(r, 15, 15, 6)
		want, e := Peel(eqs, 15)
		if e != api.OK {
			t.Fatal(e)
		}
		for i := range eqs {
			r.Shuffle(len(eqs[i]), func(a, b int) { eqs[i][a], eqs[i][b] = eqs[i][b], eqs[i][a] })
			for j := range eqs[i] {
				eqs[i][j].C = byte(1 + r.Intn(255))
			}
		}
		if got, e := Peel(eqs, 15); e != api.OK || !same(got, want) {
			t.Fatalf("%v: %v, %d, not %v", eqs, got, e, want)
		}
	}
}

// A chain is peeled from its one equation with one unknown on, wherever that stands.
func TestChain(t *testing.T) {
	for _, n := range []int{1, 2, 3, 100, 256} {
		for _, begin := range []int{0, n / 2, n - 1} {
			eqs := [][]api.Cell{}
			for at := 1; at < n; at++ {
				eqs = append(eqs, eq(at, at-1))
			}
			eqs = append(eqs, eq(begin))
			got, e := Peel(eqs, n)
			if e != api.OK || len(got.Pivots) != n || len(got.Held) != 0 || len(got.Left) != 0 {
				t.Fatalf("%d unknowns from %d on: %v, %d", n, begin, got, e)
			}
			check(t, eqs, n)
		}
	}
}

// Of several equations with as few open unknowns the first is used.
func TestFirstOfSeveral(t *testing.T) {
	eqs := make([][]api.Cell, 1000)
	for i := range eqs {
		eqs[i] = eq((i*7)%256, (i*7+1)%256)
	}
	check(t, eqs, 256)
	for i := range eqs {
		eqs[i] = eq(i % 256)
	}
	slices.Reverse(eqs)
	check(t, eqs, 256)
}

func TestOfTheGreatest(t *testing.T) {
	r := rand.New(rand.NewSource(13))
	eqs := make([][]api.Cell, 1000)
	for i := range eqs {
		eqs[i] = eq(r.Perm(256)...)
	}
	got, e := Peel(eqs, 256)
	want := Order{Pivots: []Pivot{{0, 0}}}
	for at := 1; at < 256; at++ {
		want.Held = append(want.Held, at)
	}
	if e != api.OK || !same(got, want) {
		t.Errorf("%v, %d", got, e)
	}
	for i := range eqs {
		eqs[i] = eqs[i][:1+(i*31)%256]
	}
	got, e = Peel(eqs, 256)
	if e != api.OK {
		t.Fatal(e)
	}
	follows(t, eqs, 256, got)
	check(t, some(r, 1000, 256, 4), 256)
}

// What lies behind an equation in its memory counts for nothing, and nothing of an argument changes.
func TestArgumentsAreLeft(t *testing.T) {
	memory := append(eq(2, 0), append(eq(1, 3, 0), eq(0, 0, 9, 7)...)...)
	before := slices.Clone(memory)
	eqs := append(make([][]api.Cell, 0, 8), memory[:2], memory[2:5], memory[5:6], memory[6:6], nil)
	plain := clone(eqs)
	want := plainPeel(plain, 5)
	got, e := Peel(eqs, 5)
	if !Right(eqs, 5) || e != api.OK || !same(got, want) {
		t.Errorf("%v, %d, not %v", got, e, want)
	}
	if !slices.Equal(memory, before) || !sameEqs(eqs, plain) {
		t.Error("the equations have changed")
	}
	for _, spare := range eqs[5:8] {
		if spare != nil {
			t.Error("the spare room has changed")
		}
	}
	clear(memory)
	clear(eqs[:8])
	if !same(got, want) {
		t.Error("the order changes with the equations")
	}
}

// spoil writes over a list, its spare room too.
func spoil[T any](list []T, with T) {
	list = list[:cap(list)]
	for i := range list {
		list[i] = with
	}
}

func TestAnswersAreNew(t *testing.T) {
	r := rand.New(rand.NewSource(14))
	for range 50 {
		eqs := some(r, 12, 18, 5)
		before := clone(eqs)
		want := plainPeel(eqs, 20)
		for i := range 3 {
			got, e := Peel(eqs, 20)
			if e != api.OK || !same(got, want) {
				t.Fatalf("%v, %d, not %v", got, e, want)
			}
			kept := got
			switch i {
			case 0:
				spoil(got.Pivots, Pivot{-7, -7})
				kept.Pivots = want.Pivots
			case 1:
				spoil(got.Held, -7)
				kept.Held = want.Held
			case 2:
				spoil(got.Left, -7)
				kept.Left = want.Left
			}
			if !same(kept, want) || !sameEqs(eqs, before) {
				t.Fatal("the lists share memory")
			}
		}
	}
}

// No call hangs on the ones ahead of it, failed ones among them.
func TestCallsAreByThemselves(t *testing.T) {
	eqs := [][]api.Cell{eq(0, 1, 2), eq(1, 2, 3), eq(3, 4), eq(0, 4)}
	want := plainPeel(eqs, 6)
	for i, c := range wrong() {
		Peel(c.eqs, c.n)
		Right(c.eqs, c.n)
		Peel(known()[i%len(known())].eqs, 256)
		if got, e := Peel(eqs, 6); e != api.OK || !same(got, want) || !Right(eqs, 6) {
			t.Fatalf("behind case %d: %v, %d", i, got, e)
		}
	}
}
