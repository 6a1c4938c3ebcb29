package dense

import (
	"bytes"
	"math"
	"math/rand"
	"slices"
	"testing"

	"geyser/api"
)

// plainMul is chapter 3's product, of polynomials first, the rest of a division by 11d then: it holds the
// rows against the document, not against package field.
func plainMul(a, b byte) byte {
	product := 0
	for i := range 8 {
		product ^= int(a) * int(b>>i&1) << i
	}
	for i := 14; i >= 8; i-- {
		if product>>i&1 == 1 {
			product ^= 0x11d << (i - 8)
		}
	}
	return byte(product)
}

// times gives the products of the rows of a with the columns of b, which has w of them.
func times(a, b [][]byte, w int) [][]byte {
	product := make([][]byte, len(a))
	for i := range a {
		product[i] = make([]byte, w)
		for k, c := range a[i] {
			for j := range w {
				product[i][j] ^= plainMul(c, b[k][j])
			}
		}
	}
	return product
}

// det is the determinant, unfolded along the first row.
func det(m [][]byte) byte {
	if len(m) == 0 {
		return 1
	}
	var sum byte
	for at, c := range m[0] {
		var minor [][]byte
		for _, r := range m[1:] {
			minor = append(minor, slices.Concat(r[:at], r[at+1:]))
		}
		sum ^= plainMul(c, det(minor))
	}
	return sum
}

// choices gives all ways to take k of the places 0 to n - 1.
func choices(n, k int) [][]int {
	if k == 0 {
		return [][]int{nil}
	}
	var all [][]int
	for last := k - 1; last < n; last++ {
		for _, c := range choices(last, k-1) {
			all = append(all, append(slices.Clone(c), last))
		}
	}
	return all
}

// hasMinor: whether a determinant of k of the rows and k of the w columns isn't 0.
func hasMinor(rows [][]byte, w, k int) bool {
	for _, at := range choices(len(rows), k) {
		for _, columns := range choices(w, k) {
			minor := make([][]byte, k)
			for i, r := range at {
				for _, c := range columns {
					minor[i] = append(minor[i], rows[r][c])
				}
			}
			if det(minor) != 0 {
				return true
			}
		}
	}
	return false
}

// plainRank is how many rows the greatest determinant has that isn't 0.
func plainRank(rows [][]byte) int {
	w := width(rows)
	full := padded(rows, w)
	rank := 0
	for rank < min(len(full), w) && hasMinor(full, w, rank+1) {
		rank++
	}
	return rank
}

func width(rows [][]byte) int {
	w := 0
	for _, r := range rows {
		w = max(w, len(r))
	}
	return w
}

func padded(rows [][]byte, w int) [][]byte {
	full := make([][]byte, len(rows))
	for i, r := range rows {
		full[i] = append(slices.Clone(r), make([]byte, w-len(r))...)
	}
	return full
}

// trimmed takes noughts off the ends of rows, as many as chance has it.
func trimmed(r *rand.Rand, rows [][]byte) [][]byte {
	short := make([][]byte, len(rows))
	for i, row := range rows {
		short[i] = row
		for len(short[i]) > 0 && short[i][len(short[i])-1] == 0 && r.Intn(4) > 0 {
			short[i] = short[i][:len(short[i])-1]
		}
	}
	return short
}

// few gives rows of up to w numbers below limit, many of which are 0 and alike.
func few(r *rand.Rand, m, w, limit int) [][]byte {
	rows := make([][]byte, m)
	for i := range rows {
		rows[i] = make([]byte, r.Intn(w+1))
		for j := range rows[i] {
			rows[i][j] = byte(r.Intn(limit))
		}
		if i > 0 && r.Intn(4) == 0 {
			c := byte(r.Intn(256))
			rows[i] = times([][]byte{{c}}, rows[i-1:], len(rows[i-1]))[0]
		}
	}
	return rows
}

func chance(r *rand.Rand, m, w int) [][]byte {
	rows := make([][]byte, m)
	for i := range rows {
		rows[i] = make([]byte, w)
		r.Read(rows[i])
	}
	return rows
}

// ranked gives m rows of w numbers whose rank is rank: the product of a matrix in which rank of the rows are
// those of the one, and of one in which rank of the columns are.
func ranked(r *rand.Rand, m, w, rank int) [][]byte {
	a, b := chance(r, m, rank), chance(r, rank, w)
	for k, at := range r.Perm(m)[:rank] {
		clear(a[at])
		a[at][k] = 1
	}
	for k, at := range r.Perm(w)[:rank] {
		for i := range b {
			b[i][at] = 0
		}
		b[k][at] = 1
	}
	return times(a, b, w)
}

// clone copies rows whole, their spare room too.
func clone(rows [][]byte) [][]byte {
	all := make([][]byte, len(rows))
	for i, r := range rows {
		all[i] = slices.Clone(r[:cap(r)])
	}
	return all
}

func same(a, b [][]byte) bool { return slices.EqualFunc(a, b, bytes.Equal) }

// checkReduced holds what Reduce answers against each word of the chapter: its form, and that it spans what
// the rows span, which is told by the rank and by each row being a sum of them.
func checkReduced(t *testing.T, rows [][]byte, rank int) {
	t.Helper()
	w := width(rows)
	got, leads := Reduce(rows)
	if len(got) != rank || len(leads) != rank {
		t.Fatalf("Reduce(%d): %d, %d; the rank is %d", rows, got, leads, rank)
	}
	for i, row := range got {
		if len(row) != w {
			t.Fatalf("Reduce(%d): row %d has %d numbers", rows, i, len(row))
		}
		first := slices.IndexFunc(row, func(x byte) bool { return x != 0 })
		if first < 0 || first != leads[i] || row[first] != 1 || i > 0 && leads[i-1] >= first {
			t.Fatalf("Reduce(%d): %d, %d", rows, got, leads)
		}
		for j := range got {
			if j != i && got[j][first] != 0 {
				t.Fatalf("Reduce(%d): %d: a number above or below place %d", rows, got, first)
			}
		}
	}
	for _, row := range padded(rows, w) {
		factors := make([]byte, rank)
		for i, at := range leads {
			factors[i] = row[at]
		}
		if !bytes.Equal(times([][]byte{factors}, got, w)[0], row) {
			t.Fatalf("Reduce(%d): %d: %d is no sum of them", rows, got, row)
		}
	}
}

func TestRankKnown(t *testing.T) {
	for _, c := range []struct {
		rows [][]byte
		want int
	}{
		{nil, 0},
		{[][]byte{nil}, 0},
		{[][]byte{{}, nil, {}}, 0},
		{[][]byte{{0}}, 0},
		{[][]byte{{0, 0}, {0, 0, 0}, nil}, 0},
		{[][]byte{{255}}, 1},
		{[][]byte{{0, 0, 7}}, 1},
		{[][]byte{{1, 2}, {2, 4}}, 1},
		{[][]byte{{1, 2}, {2, 5}}, 2},
		{[][]byte{{1, 128}, {2, 29}}, 1},
		{[][]byte{{1, 128}, {2, 0}}, 2},
		{[][]byte{{1}, {2}, {3}, {255}}, 1},
		{[][]byte{{1}, {1, 0, 0}}, 1},
		{[][]byte{{1}, {1, 0, 1}}, 2},
		{[][]byte{{1, 0, 1}, {1}}, 2},
		{[][]byte{{1, 1}, {0, 1, 1}, {1, 0, 1}}, 2},
		{[][]byte{{0, 0, 1}, {0, 1}, {1}}, 3},
		{[][]byte{{1, 2, 3, 4, 5}}, 1},
		{[][]byte{{1, 2}, {3, 4}, {5, 6}}, 2},
	} {
		if got := Rank(c.rows); got != c.want {
			t.Errorf("Rank(%d): %d, not %d", c.rows, got, c.want)
		}
	}
}

func TestRankOfAllPairs(t *testing.T) {
	for a := range 256 {
		for b := range 256 {
			got := Rank([][]byte{{1, byte(a)}, {byte(b), 77}})
			want := 2
			if plainMul(byte(a), byte(b)) == 77 {
				want = 1
			}
			if got != want {
				t.Fatalf("1 %d, %d 77: %d", a, b, got)
			}
		}
	}
}

func TestAgainstDeterminants(t *testing.T) {
	r := rand.New(rand.NewSource(1))
	for _, limit := range []int{2, 3, 5, 256} {
		for range 700 {
			rows := few(r, r.Intn(5), 1+r.Intn(5), limit)
			want := plainRank(rows)
			if got := Rank(rows); got != want {
				t.Fatalf("Rank(%d): %d, not %d", rows, got, want)
			}
			checkReduced(t, rows, want)
		}
	}
}

func TestRowsOfKnownRank(t *testing.T) {
	r := rand.New(rand.NewSource(2))
	for range 150 {
		m, w := 1+r.Intn(30), 1+r.Intn(30)
		rank := r.Intn(min(m, w) + 1)
		rows := trimmed(r, ranked(r, m, w, rank))
		if got := Rank(rows); got != rank {
			t.Fatalf("%d rows of %d: %d, not %d", m, w, got, rank)
		}
		checkReduced(t, rows, rank)
	}
}

func TestReduceKnown(t *testing.T) {
	for _, c := range []struct {
		rows, want [][]byte
		leads      []int
	}{
		{nil, nil, nil},
		{[][]byte{nil, {}}, nil, nil},
		{[][]byte{{0, 0}, {0}}, nil, nil},
		{[][]byte{{2, 4}}, [][]byte{{1, 2}}, []int{0}},
		{[][]byte{{1, 2}, {2, 4}}, [][]byte{{1, 2}}, []int{0}},
		{[][]byte{{0, 2, 29}}, [][]byte{{0, 1, 128}}, []int{1}},
		{[][]byte{{0, 1}, {1, 0}}, [][]byte{{1, 0}, {0, 1}}, []int{0, 1}},
		{[][]byte{{1, 1}, {0, 1}}, [][]byte{{1, 0}, {0, 1}}, []int{0, 1}},
		{[][]byte{{5}, {0, 0, 0}}, [][]byte{{1, 0, 0}}, []int{0}},
		{[][]byte{{0, 0, 0}, {5}}, [][]byte{{1, 0, 0}}, []int{0}},
		{[][]byte{{1, 2, 3}, {1}}, [][]byte{{1, 0, 0}, {0, 1, 143}}, []int{0, 1}},
		{[][]byte{{1}, {1, 0, 1, 7}, {0, 0, 0, 9}}, [][]byte{{1, 0, 0, 0}, {0, 0, 1, 0}, {0, 0, 0, 1}}, []int{0, 2, 3}},
		{[][]byte{{1, 5, 0, 6}, {0, 0, 1, 7}}, [][]byte{{1, 5, 0, 6}, {0, 0, 1, 7}}, []int{0, 2}},
		{[][]byte{{1, 5, 1, 6}, {0, 0, 1, 7}}, [][]byte{{1, 5, 0, 1}, {0, 0, 1, 7}}, []int{0, 2}},
	} {
		got, leads := Reduce(c.rows)
		if !same(got, c.want) || !slices.Equal(leads, c.leads) {
			t.Errorf("Reduce(%d): %d, %d", c.rows, got, leads)
		}
	}
}

// The reduced form hangs on what the rows span alone: not on their order, nor on how often one stands there.
func TestReduceOfTheSameSpan(t *testing.T) {
	r := rand.New(rand.NewSource(3))
	for range 100 {
		w := 1 + r.Intn(12)
		rows := trimmed(r, ranked(r, 12, w, r.Intn(w+1)))
		want, leads := Reduce(rows)
		more := append(slices.Clone(rows), times(chance(r, 3, 12), padded(rows, w), w)...)
		r.Shuffle(len(more), func(i, j int) { more[i], more[j] = more[j], more[i] })
		more = append(more, make([]byte, width(rows)), nil)
		for i := range more {
			more[i] = more[i][:min(len(more[i]), width(rows))]
		}
		got, again := Reduce(more)
		if !same(got, want) || !slices.Equal(again, leads) {
			t.Fatalf("%d: %d, %d; %d: %d, %d", rows, want, leads, more, got, again)
		}
		twice, again := Reduce(want)
		if !same(twice, want) || !slices.Equal(again, leads) {
			t.Fatalf("reduced again: %d, not %d", twice, want)
		}
	}
}

func TestSolveKnown(t *testing.T) {
	for _, c := range []struct {
		rows, right [][]byte
		n           int
		want        [][]byte
	}{
		{[][]byte{{2}}, [][]byte{{29, 6}}, 1, [][]byte{{128, 3}}},
		{[][]byte{{1, 1}, {0, 1}}, [][]byte{{5}, {3}}, 2, [][]byte{{6}, {3}}},
		{[][]byte{{0, 1}, {1}}, [][]byte{{5, 6}, {7, 8}}, 2, [][]byte{{7, 8}, {5, 6}}},
		{[][]byte{{1}, {0, 0, 1}, {0, 1}}, [][]byte{{1}, {2}, {3}}, 3, [][]byte{{1}, {3}, {2}}},
		{[][]byte{{1}, {2}, {0}, nil}, [][]byte{{128}, {29}, {0}, {0}}, 1, [][]byte{{128}}},
		{[][]byte{{1, 2}, {3, 4}}, [][]byte{{0, 0}, {0, 0}}, 2, [][]byte{{0, 0}, {0, 0}}},
		{[][]byte{{7}}, [][]byte{nil}, 1, [][]byte{{}}},
		{[][]byte{{1, 2}, {3, 4}, {3, 4}}, [][]byte{nil, {}, nil}, 2, [][]byte{{}, {}}},
	} {
		got, e := Solve(c.rows, c.right, c.n)
		if e != api.OK || !same(got, c.want) {
			t.Errorf("Solve(%d, %d, %d): %d, %d", c.rows, c.right, c.n, got, e)
		}
	}
}

func TestSolveWithoutUnknowns(t *testing.T) {
	for _, c := range []struct {
		rows, right [][]byte
		want        api.Errno
	}{
		{nil, nil, api.OK},
		{[][]byte{}, nil, api.OK},
		{[][]byte{nil, {}}, [][]byte{{0, 0}, {0, 0}}, api.OK},
		{[][]byte{nil}, [][]byte{nil}, api.OK},
		{[][]byte{nil, {}}, [][]byte{{0, 0}, {0, 1}}, api.ErrSum},
		{[][]byte{{0}}, [][]byte{{0}}, api.ErrArg},
	} {
		got, e := Solve(c.rows, c.right, 0)
		if len(got) != 0 || e != c.want {
			t.Errorf("Solve(%d, %d, 0): %d, %d", c.rows, c.right, got, e)
		}
	}
}

// Whatever the unknowns are, enough of their sums give them back; one sum that is told wrong is noticed where
// there are more than enough.
func TestSolveGivesTheUnknownsBack(t *testing.T) {
	r := rand.New(rand.NewSource(4))
	for range 200 {
		n, more, size := 1+r.Intn(20), r.Intn(4), 1+r.Intn(20)
		vectors := chance(r, n, size)
		full := ranked(r, n+more, n, n)
		right := times(full, vectors, size)
		rows := trimmed(r, full)
		got, e := Solve(rows, right, n)
		if e != api.OK || !same(got, vectors) {
			t.Fatalf("%d of %d: %d, %d, not %d", len(rows), n, got, e, vectors)
		}
		at, bit := r.Intn(len(rows)), byte(1)<<r.Intn(8)
		right[at][r.Intn(size)] ^= bit
		got, e = Solve(rows, right, n)
		if lone := Rank(slices.Delete(slices.Clone(rows), at, at+1)) < n; lone {
			if e != api.OK || same(got, vectors) {
				t.Fatalf("no other row tells of it: %d, %d", got, e)
			}
		} else if len(got) != 0 || e != api.ErrSum {
			t.Fatalf("a wrong right at %d of %d: %d, %d", at, len(rows), got, e)
		}
	}
}

// A right that doesn't fit is seen at each of its places, and in each of its bits.
func TestNoAnswer(t *testing.T) {
	rows := [][]byte{{1, 2}, {3, 4}, {2, 6}}
	for at := range rows {
		for place := range 5 {
			for bit := range 8 {
				right := [][]byte{{1, 2, 3, 4, 5}, {6, 7, 8, 9, 10}, {7, 5, 11, 13, 15}}
				if got, e := Solve(rows, right, 2); len(got) != 2 || e != api.OK {
					t.Fatalf("rights that fit: %d, %d", got, e)
				}
				right[at][place] ^= 1 << bit
				if got, e := Solve(rows, right, 2); len(got) != 0 || e != api.ErrSum {
					t.Fatalf("bit %d at %d of right %d: %d, %d", bit, place, at, got, e)
				}
			}
		}
	}
	for _, row := range [][]byte{nil, {0}, {0, 0}} {
		got, e := Solve([][]byte{{1}, row, {0, 1}}, [][]byte{{1}, {1}, {1}}, 2)
		if len(got) != 0 || e != api.ErrSum {
			t.Errorf("a row of noughts whose right is 1: %d, %d", got, e)
		}
	}
}

func TestSolveBelowRank(t *testing.T) {
	r := rand.New(rand.NewSource(5))
	for range 200 {
		n := 1 + r.Intn(15)
		full := ranked(r, n+3, n, r.Intn(n))
		vectors := chance(r, n, 4)
		rights := [][][]byte{times(full, vectors, 4), chance(r, n+3, 4), make([][]byte, n+3)}
		for _, right := range rights {
			if got, e := Solve(trimmed(r, full), right, n); len(got) != 0 || e != api.ErrRank {
				t.Fatalf("Solve(%d, %d, %d): %d, %d", full, right, n, got, e)
			}
		}
	}
	for _, c := range []struct {
		rows, right [][]byte
		n           int
	}{
		{nil, nil, 1},
		{nil, nil, math.MaxInt},
		{[][]byte{{1}}, [][]byte{{1}}, math.MaxInt},
		{[][]byte{{1}}, [][]byte{{1}}, 2},
		{[][]byte{{1, 2}, {2, 4}}, [][]byte{{1}, {2}}, 2},
		{[][]byte{{1, 2}, {2, 4}}, [][]byte{{1}, {3}}, 2},
		{[][]byte{nil}, [][]byte{{1}}, 1},
		{[][]byte{{0}}, [][]byte{{1}}, 1},
		{[][]byte{{1}, {0, 0, 1}}, [][]byte{nil, nil}, 3},
	} {
		if got, e := Solve(c.rows, c.right, c.n); len(got) != 0 || e != api.ErrRank {
			t.Errorf("Solve(%d, %d, %d): %d, %d", c.rows, c.right, c.n, got, e)
		}
	}
}

// Wrong arguments are told ahead of a rank that is too low, and of rights that don't fit.
func TestSolveArguments(t *testing.T) {
	for _, c := range []struct {
		rows, right [][]byte
		n           int
	}{
		{nil, nil, -1},
		{nil, nil, math.MinInt},
		{[][]byte{nil}, [][]byte{nil}, -1},
		{[][]byte{{1}}, [][]byte{{1}}, -1},
		{[][]byte{{1, 0}}, [][]byte{{1}}, 1},
		{[][]byte{{1}, {0, 0}}, [][]byte{{1}, {1}}, 1},
		{[][]byte{{0, 0, 0}, {1}}, [][]byte{{1}, {1}}, 2},
		{[][]byte{{1}}, nil, 1},
		{nil, [][]byte{{1}}, 0},
		{nil, [][]byte{nil}, 0},
		{[][]byte{{1}}, [][]byte{{1}, {1}}, 1},
		{[][]byte{{1}, {1}}, [][]byte{{1}}, 1},
		{[][]byte{{1}, {0, 1}}, [][]byte{{1}, {1, 2}}, 2},
		{[][]byte{{1}, {0, 1}}, [][]byte{{1}, nil}, 2},
		{[][]byte{{1}, {0, 1}}, [][]byte{nil, {0}}, 2},
		{[][]byte{{1}, {0, 1}, {1}}, [][]byte{{1}, {1}, {1, 0}}, 2},
		{[][]byte{{1}, {1}}, [][]byte{{1}, {2, 0}}, 5},
		{[][]byte{{1}}, [][]byte{{1}, {1}}, math.MaxInt},
	} {
		if got, e := Solve(c.rows, c.right, c.n); len(got) != 0 || e != api.ErrArg {
			t.Errorf("Solve(%d, %d, %d): %d, %d", c.rows, c.right, c.n, got, e)
		}
	}
}

// pieces cuts rows out of one room, each of which has the next ones behind it as its spare room.
func pieces(rows [][]byte) [][]byte {
	room := append(slices.Concat(rows...), 1, 2, 3)
	cuts := make([][]byte, len(rows))
	for i, r := range rows {
		cuts[i] = room[:len(r)]
		room = room[len(r):]
	}
	return cuts
}

// What is handed in stays as it is, its spare room and its order too.
func TestRowsAreLeft(t *testing.T) {
	r := rand.New(rand.NewSource(6))
	for range 100 {
		n := 1 + r.Intn(8)
		rows := pieces(trimmed(r, ranked(r, n+2, n, n-r.Intn(2))))
		right := pieces(chance(r, n+2, 5))
		if r.Intn(2) == 0 {
			right = pieces(times(padded(rows, n), chance(r, n, 5), 5))
		}
		wasRows, wasRight := clone(rows), clone(right)
		Rank(rows)
		Reduce(rows)
		Solve(rows, right, n)
		Solve(rows, right[1:], n)
		if !same(clone(rows), wasRows) || !same(clone(right), wasRight) {
			t.Fatal("changed")
		}
	}
}

// spoil writes over a list and its spare room.
func spoil(b []byte) {
	b = b[:cap(b)]
	for i := range b {
		b[i] ^= 255
	}
}

// alone spoils an answer's lists one by one: none of the others may change by it.
func alone(t *testing.T, answer [][]byte) {
	t.Helper()
	for i := range answer {
		was := clone(answer)
		spoil(answer[i])
		spoil(was[i])
		if !same(clone(answer), was) {
			t.Fatalf("list %d shares memory with another", i)
		}
	}
}

// An answer is new memory, also where it tells the same numbers as an argument.
func TestAnswersAreNew(t *testing.T) {
	r := rand.New(rand.NewSource(7))
	one := [][]byte{{1, 0, 0}, {0, 1, 0}, {0, 0, 1}}
	for _, rows := range [][][]byte{one, {one[2], one[1], one[0], one[1]}, ranked(r, 5, 3, 3), {{1}, {0, 1}, {0, 0, 1}}} {
		rows = pieces(rows)
		right := pieces(times(padded(rows, 3), chance(r, 3, 6), 6))
		wasRows, wasRight := clone(rows), clone(right)
		reduced, _ := Reduce(rows)
		vectors, e := Solve(rows, right, 3)
		if len(reduced) != 3 || len(vectors) != 3 || e != api.OK {
			t.Fatalf("%d, %d, %d", reduced, vectors, e)
		}
		alone(t, reduced)
		alone(t, vectors)
		clear(reduced[:cap(reduced)])
		clear(vectors[:cap(vectors)])
		if !same(clone(rows), wasRows) || !same(clone(right), wasRight) {
			t.Fatal("shares memory with an argument")
		}
	}
}

// One list may stand at several places, among the rows and the rights.
func TestOneListTwice(t *testing.T) {
	a, b := []byte{2, 7}, []byte{9, 4}
	rows := [][]byte{a, a, b, b, a}
	if got := Rank(rows); got != 2 {
		t.Errorf("Rank: %d", got)
	}
	checkReduced(t, rows, 2)
	got, e := Solve(rows, rows, 2)
	if e != api.OK || !same(got, [][]byte{{1, 0}, {0, 1}}) {
		t.Errorf("the rows as their own rights: %d, %d", got, e)
	}
}

// A call answers the same whatever was asked ahead of it.
func TestNothingIsKept(t *testing.T) {
	rows, right := [][]byte{{1, 2}, {3, 5}}, [][]byte{{1}, {2}}
	rank := Rank(rows)
	reduced, leads := Reduce(rows)
	vectors, _ := Solve(rows, right, 2)
	Rank([][]byte{{9, 9, 9}})
	Reduce([][]byte{{0, 4, 5}, {6}})
	Solve(right, rows, 1)
	Solve(right, rows, -1)
	again, places := Reduce(rows)
	solved, e := Solve(rows, right, 2)
	if Rank(rows) != rank || !same(reduced, again) || !slices.Equal(leads, places) || !same(vectors, solved) || e != api.OK {
		t.Error("not the same again")
	}
}

// One long row among many short ones takes no room for filling these up.
func TestLongRowAmongShort(t *testing.T) {
	const many = 1 << 16
	rows := make([][]byte, many)
	for i := range rows {
		rows[i] = []byte{byte(i), byte(i >> 8)}
	}
	rows[many/2] = bytes.Repeat([]byte{3}, api.MaxDisk)
	if got := Rank(rows); got != 3 {
		t.Errorf("Rank: %d", got)
	}
	reduced, leads := Reduce(rows)
	if len(reduced) != 3 || !slices.Equal(leads, []int{0, 1, 2}) {
		t.Fatalf("Reduce: %d rows, %d", len(reduced), leads)
	}
	for i, row := range reduced {
		if len(row) != api.MaxDisk || row[i] != 1 || row[api.MaxDisk-1] != byte(i/2) {
			t.Errorf("row %d: %d numbers, %d, .., %d", i, len(row), row[:4], row[api.MaxDisk-1])
		}
	}
}

// As many slices as a set may have, as long as they may be.
func TestGreatestSet(t *testing.T) {
	r := rand.New(rand.NewSource(8))
	vectors := chance(r, api.MaxSlices, api.MaxSlice)
	rows := ranked(r, api.MaxSlices+api.MaxIDs, api.MaxSlices, api.MaxSlices)
	got, e := Solve(rows, times(rows, vectors, api.MaxSlice), api.MaxSlices)
	if e != api.OK || !same(got, vectors) {
		t.Error("the slices don't come back", e)
	}
}
