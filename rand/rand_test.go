package rand

import (
	"math"
	"testing"
)

// plainNext is the chapter's next state, bit by bit: bit i of a number that went up by n is bit i - n of it,
// and of one that went down by n it is bit i + n.
func plainNext(state uint32) uint32 {
	for _, by := range []int{13, -17, 5} {
		turned := uint32(0)
		for i := range 32 {
			bit := state >> i & 1
			if from := i - by; from >= 0 && from < 32 {
				bit ^= state >> from & 1
			}
			turned |= bit << i
		}
		state = turned
	}
	return state
}

// plainDegree is the chapter's list, draw by draw.
func plainDegree(draw, n int) int {
	d := 34
	for _, step := range [][2]int{{980, 18}, {930, 10}, {860, 6}, {780, 4}, {696, 3}, {528, 2}, {16, 1}} {
		if draw < step[0] {
			d = step[1]
		}
	}
	if d > n {
		d = n
	}
	if d < 1 {
		d = 1
	}
	return d
}

// at makes a Rand whose state is this one, which isn't 0.
func at(state uint32) *Rand { return New(state ^ 0x9e3779b9) }

// states has some states: a bit alone, all bits but one, edges, and a long walk.
func states() []uint32 {
	all := []uint32{1, 2, math.MaxUint32, math.MaxUint32 - 1, 1<<31 - 1, 0x9e3779b9}
	for i := range 32 {
		all = append(all, 1<<i, ^uint32(1<<i))
	}
	state := uint32(77)
	for range 20000 {
		state = plainNext(state)
		all = append(all, state)
	}
	return all
}

func TestNextKnown(t *testing.T) {
	for _, c := range []struct {
		seed uint32
		want [5]uint32
	}{
		{0x9e3779b9, [5]uint32{270369, 67634689, 2647435461, 307599695, 2398689233}},
		{0x9e3779b8, [5]uint32{270369, 67634689, 2647435461, 307599695, 2398689233}},
		{0, [5]uint32{1359758873, 3761132862, 2075758394, 25405621, 3862129951}},
		{1, [5]uint32{1359504952, 3827716927, 3866437631, 332804602, 1758100174}},
		{0x61c88646, [5]uint32{253983, 4228382207, 1958451267, 4056713434, 2049502865}},
		{0x1e3779b9, [5]uint32{2148024320, 2299036804, 2861646152, 3585606292, 1756881985}},
		{0xffffffff, [5]uint32{1359980038, 472492225, 251795321, 4031717487, 2619048846}},
		{12345, [5]uint32{2548642403, 2231655569, 3696820378, 1963845983, 3438003404}},
	} {
		r := New(c.seed)
		for i, want := range c.want {
			if got := r.Next(); got != want {
				t.Errorf("seed %08x, state %d: %d, not %d", c.seed, i+1, got, want)
			}
		}
	}
}

func TestNextOfEachState(t *testing.T) {
	for _, state := range states() {
		if got, want := at(state).Next(), plainNext(state); got != want {
			t.Fatalf("behind %08x: %08x, not %08x", state, got, want)
		}
	}
}

// A state is never 0, whatever the seed: it would stay there.
func TestNextIsNeverNought(t *testing.T) {
	for _, seed := range append(states(), 0, 0x9e3779b9, 0x9e3779b8) {
		r := New(seed)
		for range 10 {
			if r.Next() == 0 {
				t.Fatalf("seed %08x", seed)
			}
		}
	}
}

// Two seeds begin alike only where one would begin with 0.
func TestSeedsDiffer(t *testing.T) {
	first := map[uint32]uint32{}
	for seed := range uint32(1 << 16) {
		first[New(seed).Next()] = seed
		first[New(0x9e370000|seed).Next()] = 0x9e370000 | seed
	}
	if len(first) != 2<<16-1 {
		t.Errorf("%d beginnings", len(first))
	}
}

func TestBelow(t *testing.T) {
	sizes := []int{1, 2, 3, 7, 8, 10, 64, 75, 255, 256, 1000, 1 << 16, 1<<31 - 1}
	for _, state := range states() {
		next := plainNext(state)
		for _, n := range sizes {
			r := at(state)
			if got := r.Below(n); got != int(int64(next)%int64(n)) {
				t.Fatalf("behind %08x, below %d: %d", state, n, got)
			}
			if r.Next() != plainNext(next) {
				t.Fatalf("behind %08x, below %d: not just one state further", state, n)
			}
		}
	}
}

func TestBelowKnown(t *testing.T) {
	for _, c := range []struct{ n, want int }{
		{1, 0}, {2, 1}, {10, 9}, {255, 69}, {1000, 369}, {270368, 1}, {270369, 0}, {270370, 270369}, {math.MaxInt32, 270369},
	} {
		if got := New(0x9e3779b9).Below(c.n); got != c.want {
			t.Errorf("below %d: %d, not %d", c.n, got, c.want)
		}
	}
}

// An n beyond all states, where an int holds one, leaves each as it is.
func TestBelowTheGreatest(t *testing.T) {
	for _, state := range states() {
		want := int64(plainNext(state)) % int64(math.MaxInt)
		if got := at(state).Below(math.MaxInt); int64(got) != want {
			t.Fatalf("behind %08x: %d, not %d", state, got, want)
		}
	}
	if math.MaxInt == math.MaxInt32 {
		return
	}
	next := plainNext(0x80000000)
	for _, up := range []int{31, 32, 33, 62} {
		n := 1 << up
		for _, n := range []int{n - 1, n, n + 1} {
			if got := at(0x80000000).Below(n); int64(got) != int64(next)%int64(n) {
				t.Errorf("below %d: %d", n, got)
			}
		}
	}
}

func TestBelowOfNoneStays(t *testing.T) {
	for _, state := range states()[:100] {
		for _, n := range []int{0, -1, -2, -75, math.MinInt32, math.MinInt, math.MinInt + 1} {
			r := at(state)
			if got := r.Below(n); got != 0 {
				t.Errorf("below %d: %d", n, got)
			}
			if r.Next() != plainNext(state) {
				t.Errorf("below %d: the state goes on", n)
			}
		}
	}
}

// stateOfDraws has of each draw a state behind which it comes.
func stateOfDraws(t *testing.T) [1024]uint32 {
	var of [1024]uint32
	for _, state := range states() {
		of[plainNext(state)%1024] = state
	}
	for draw, state := range of {
		if state == 0 {
			t.Fatalf("no state for the draw %d", draw)
		}
	}
	return of
}

func TestDegreeOfEachDraw(t *testing.T) {
	for draw, state := range stateOfDraws(t) {
		for n := -3; n <= 80; n++ {
			r := at(state)
			if got, want := r.Degree(n), plainDegree(draw, n); got != want {
				t.Fatalf("draw %d, at most %d: %d, not %d", draw, n, got, want)
			}
			if r.Next() != plainNext(plainNext(state)) {
				t.Fatalf("draw %d, at most %d: not just one state further", draw, n)
			}
		}
	}
}

func TestDegreeAtTheEdges(t *testing.T) {
	of := stateOfDraws(t)
	for _, c := range []struct{ draw, want int }{
		{0, 1}, {15, 1}, {16, 2}, {527, 2}, {528, 3}, {695, 3}, {696, 4}, {779, 4}, {780, 6}, {859, 6},
		{860, 10}, {929, 10}, {930, 18}, {979, 18}, {980, 34}, {1023, 34},
	} {
		for _, n := range []int{34, 35, 75, math.MaxInt32, math.MaxInt} {
			if got := at(of[c.draw]).Degree(n); got != c.want {
				t.Errorf("draw %d, at most %d: %d, not %d", c.draw, n, got, c.want)
			}
		}
		for _, n := range []int{c.want - 1, c.want, 1, 0, -1, math.MinInt} {
			want := max(n, 1)
			if got := at(of[c.draw]).Degree(n); got != want {
				t.Errorf("draw %d, at most %d: %d, not %d", c.draw, n, got, want)
			}
		}
	}
}

func TestDegreesShare(t *testing.T) {
	count := map[int]int{}
	for _, state := range stateOfDraws(t) {
		count[at(state).Degree(34)]++
	}
	for d, want := range map[int]int{1: 16, 2: 512, 3: 168, 4: 84, 6: 80, 10: 70, 18: 50, 34: 44} {
		if count[d] != want {
			t.Errorf("%d: %d of 1024 draws, not %d", d, count[d], want)
		}
	}
}

func TestSeedKnown(t *testing.T) {
	for _, c := range []struct {
		k    int
		id   uint32
		want uint32
	}{
		{0, 0, 0},
		{1, 0, 40503},
		{0, 1, 2654435761},
		{1, 1, 2654476264},
		{64, 0, 2592192},
		{8, 3, 3668664011},
		{0, 2, 1013904226},
		{64, 0xffffffff, 1643123727},
		{0, 0x80000000, 2147483648},
		{3, 0x80000000, 2147605157},
		{106039, 0, 4294897617},
		{106040, 0, 4294938120},
		{106041, 0, 11327},
		{-1, 0, 4294926793},
		{-1, 1, 2654395258},
		{math.MaxInt32, 0xffffffff, 3787974680},
		{math.MinInt32, 0xffffffff, 3788015183},
	} {
		if got := Seed(c.k, c.id); got != c.want {
			t.Errorf("Seed(%d, %d): %d, not %d", c.k, c.id, got, c.want)
		}
	}
}

// plainSeed takes the rests of the factors ahead of the products, so that nothing runs over.
func plainSeed(k int, id uint32) uint32 {
	const all = int64(1) << 32
	rest := (int64(k)%all + all) % all
	sum := rest * 40503 % all
	// 2654435761 in two parts, as a product of two numbers of 32 bits may be beyond an int64.
	sum += int64(id) * (2654435761 >> 16) % all * (1 << 16) % all
	sum += int64(id) * (2654435761 & 0xffff) % all
	return uint32(sum % all)
}

func TestSeedOfEach(t *testing.T) {
	ids := append(states()[:2000], 0, 1, 2, 63, 64)
	for _, k := range []int{0, 1, 2, 7, 63, 64, 65, 256, 1 << 20, -1, -64, math.MaxInt32, math.MinInt32, math.MaxInt, math.MinInt} {
		for _, id := range ids {
			if got, want := Seed(k, id), plainSeed(k, id); got != want {
				t.Fatalf("Seed(%d, %d): %d, not %d", k, id, got, want)
			}
		}
	}
}

func TestNilRand(t *testing.T) {
	var r *Rand
	if r.Next() != 0 {
		t.Error("Next")
	}
	for _, n := range []int{math.MinInt, -1, 0, 1, 2, 34, 64, math.MaxInt} {
		if got := r.Below(n); got != 0 {
			t.Errorf("Below(%d): %d", n, got)
		}
		if got := r.Degree(n); got != 0 {
			t.Errorf("Degree(%d): %d", n, got)
		}
	}
}

func TestZeroRandEnds(t *testing.T) {
	r := &Rand{}
	for _, n := range []int{math.MinInt, -1, 0, 1, 2, 34, math.MaxInt} {
		r.Next()
		r.Below(n)
		r.Degree(n)
	}
}

// What one Rand answers hangs on its own history alone.
func TestRandsAreByThemselves(t *testing.T) {
	alone := New(5)
	var want []int
	for range 300 {
		want = append(want, alone.Below(100), alone.Degree(20), int(alone.Next()%1000))
	}
	one, other := New(5), New(5)
	for i := 0; i < len(want); i += 3 {
		got := []int{one.Below(100), 0, 0}
		New(uint32(i)).Next()
		other.Next()
		got[1] = one.Degree(20)
		Seed(i, uint32(i))
		other.Below(i)
		got[2] = int(one.Next() % 1000)
		for j := range got {
			if got[j] != want[i+j] {
				t.Fatalf("answer %d: %d, not %d", i+j, got[j], want[i+j])
			}
		}
	}
}

// All calls draw from one row of states, in whatever order they come.
func TestCallsShareTheStates(t *testing.T) {
	r := New(99)
	state := uint32(99) ^ 0x9e3779b9
	for i := range 3000 {
		switch i % 4 {
		case 0:
			state = plainNext(state)
			if got := r.Next(); got != state {
				t.Fatalf("step %d: %d, not %d", i, got, state)
			}
		case 1:
			state = plainNext(state)
			if got := r.Below(i); got != int(int64(state)%int64(i)) {
				t.Fatalf("step %d: below, %d", i, got)
			}
		case 2:
			state = plainNext(state)
			if got := r.Degree(i % 50); got != plainDegree(int(state%1024), i%50) {
				t.Fatalf("step %d: degree, %d", i, got)
			}
		case 3:
			r.Below(-i)
		}
	}
}
