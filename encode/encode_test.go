package encode

import (
	"bytes"
	"math"
	"math/rand"
	"slices"
	"testing"

	"geyser/api"
	"geyser/precode"
	"geyser/row"
)

// plainMul is chapter 3's product, of polynomials first, the rest of a division by 11d then.
func plainMul(a, b byte) byte {
	product := 0
	for i := range 8 {
		product ^= int(a) * int(b>>i&1) << i
	}
	for i := 14; i >= 8; i-- {
		if product>>i&1 == 1 {
			product ^= 0x11d << (i - 8)
		}
	}
	return byte(product)
}

// plainSymbol comes to a symbol without its row: the parities stand behind the sources, and what is picked of
// both is added, byte by byte.
func plainSymbol(sources [][]byte, size int, id uint32) []byte {
	parities, _ := precode.Parities(sources, size)
	places := append(slices.Clone(sources), parities...)
	symbol := make([]byte, size)
	for _, pick := range row.Picks(len(sources), id) {
		for p, b := range places[pick.At] {
			symbol[p] ^= plainMul(b, pick.C)
		}
	}
	return symbol
}

func plainSymbols(sources [][]byte, size int, ids []uint32) [][]byte {
	symbols := [][]byte{}
	for _, id := range ids {
		symbols = append(symbols, plainSymbol(sources, size, id))
	}
	return symbols
}

func same(a, b [][]byte) bool { return slices.EqualFunc(a, b, bytes.Equal) }

// some makes k sources of bytes by chance, of all lengths up to the size.
func some(r *rand.Rand, k, size int) [][]byte {
	sources := make([][]byte, k)
	for i := range sources {
		sources[i] = make([]byte, r.Intn(size+1))
		r.Read(sources[i])
	}
	return sources
}

// added adds two lists of sources place by place: of each two, the shorter one is filled up with 0.
func added(a, b [][]byte) [][]byte {
	total := make([][]byte, len(a))
	for i := range a {
		total[i] = make([]byte, max(len(a[i]), len(b[i])))
		copy(total[i], a[i])
		for p, x := range b[i] {
			total[i][p] ^= x
		}
	}
	return total
}

// ids has as many IDs as a call may: small ones, those at the edges, and some from all over.
func ids() []uint32 {
	all := []uint32{math.MaxUint32, math.MaxUint32 - 1, 1 << 31, math.MaxInt32}
	for i := range uint32(30) {
		all = append(all, i, i*2246822519+77)
	}
	return all
}

// ramp is 64 sources of 3 bytes, each byte told by its place.
func ramp() [][]byte {
	sources := make([][]byte, 64)
	for i := range sources {
		for p := range 3 {
			sources[i] = append(sources[i], byte(i*4+p))
		}
	}
	return sources
}

// known has symbols that were worked out apart from this program.
func known() []struct {
	sources [][]byte
	size    int
	id      uint32
	want    []byte
} {
	eight := [][]byte{{0, 1}, {1, 0}, {1, 1}, {0, 0}, {7, 7}, {200}, {9, 255}, {66}}
	return []struct {
		sources [][]byte
		size    int
		id      uint32
		want    []byte
	}{
		{[][]byte{{7}}, 1, 0, []byte{77}},
		{[][]byte{{7}}, 1, 46, []byte{219}},
		{[][]byte{{1, 2, 3}}, 4, 1, []byte{164, 85, 241, 0}},
		{[][]byte{{255}}, 1, 730, []byte{0}}, // its row is 0
		{[][]byte{{1, 2, 3}, {4, 5}}, 3, 0, []byte{191, 227, 235}},
		{[][]byte{{1, 2, 3}, {4, 5}}, 3, 9, []byte{116, 164, 174}},
		{[][]byte{{1, 2}, {3}, {}}, 2, 0, []byte{216, 8}},
		{[][]byte{{1, 2}, {3}, nil}, 2, 7, []byte{102, 53}},
		{[][]byte{nil, {}, {9}}, 2, 7, []byte{116, 0}},
		{[][]byte{{1, 2, 3}, {}, {255}}, 4, 7, []byte{15, 53, 161, 0}},
		{[][]byte{{128}, {1}, {2}, {4}, {8}}, 1, 1 << 31, []byte{119}},
		{eight, 2, 5, []byte{208, 141}},
		{eight, 2, math.MaxUint32, []byte{215, 39}},
		{[][]byte{{128}, {1}, {2}, {4}, {8}, {16}, {32}, {64}, {200}}, 1, 1, []byte{207}},
		{ramp(), 3, math.MaxUint32, []byte{164, 212, 68}},
		{ramp(), 3, 0, []byte{238, 221, 136}},
		{ramp(), 3, 3, []byte{187, 226, 9}},
	}
}

// wrong has arguments that may not be, and the error that is named first.
func wrong() []struct {
	sources [][]byte
	size    int
	want    api.Errno
} {
	one := [][]byte{{1}}
	long := [][]byte{{1}, {1, 2, 3}}
	tooMany := make([][]byte, 65)
	tooManyLong := make([][]byte, 65)
	tooManyLong[64] = []byte{1, 2, 3}
	lastLong := make([][]byte, 64)
	lastLong[63] = []byte{1, 2, 3}
	return []struct {
		sources [][]byte
		size    int
		want    api.Errno
	}{
		{one, 0, api.ErrArg},
		{one, -1, api.ErrArg},
		{one, 257, api.ErrArg},
		{one, math.MaxInt, api.ErrArg},
		{one, math.MinInt, api.ErrArg},
		{nil, 0, api.ErrArg},
		{nil, 257, api.ErrArg},
		{tooMany, 257, api.ErrArg},
		{tooManyLong, 0, api.ErrArg},
		{long, 0, api.ErrArg},
		{[][]byte{make([]byte, 258)}, 257, api.ErrArg},
		{nil, 1, api.ErrMany},
		{[][]byte{}, 256, api.ErrMany},
		{tooMany, 1, api.ErrMany},
		{tooManyLong, 2, api.ErrMany},
		{make([][]byte, 1<<20), 256, api.ErrMany},
		{long, 2, api.ErrLong},
		{long, 1, api.ErrLong},
		{[][]byte{{1, 2}}, 1, api.ErrLong},
		{[][]byte{{0, 0}, {1}}, 1, api.ErrLong},
		{lastLong, 2, api.ErrLong},
		{[][]byte{make([]byte, 257)}, 256, api.ErrLong},
	}
}

func TestSymbolKnown(t *testing.T) {
	for _, c := range known() {
		if got, e := Symbol(c.sources, c.size, c.id); e != api.OK || !bytes.Equal(got, c.want) {
			t.Errorf("%d sources of %d, id %d: %d, %d, not %d", len(c.sources), c.size, c.id, got, e, c.want)
		}
	}
}

func TestSymbolsKnown(t *testing.T) {
	for _, c := range known() {
		got, e := Symbols(c.sources, c.size, []uint32{c.id})
		if e != api.OK || !same(got, [][]byte{c.want}) {
			t.Errorf("%d sources of %d, id %d: %d, %d, not %d", len(c.sources), c.size, c.id, got, e, c.want)
		}
	}
	got, e := Symbols(ramp(), 3, []uint32{3, math.MaxUint32, 0, 3})
	want := [][]byte{{187, 226, 9}, {164, 212, 68}, {238, 221, 136}, {187, 226, 9}}
	if e != api.OK || !same(got, want) {
		t.Errorf("%d, %d, not %d", got, e, want)
	}
}

func TestOfEachNumberOfSources(t *testing.T) {
	r := rand.New(rand.NewSource(9))
	for k := 1; k <= 64; k++ {
		for _, size := range []int{1, 7} {
			sources := some(r, k, size)
			for _, id := range ids() {
				want := plainSymbol(sources, size, id)
				if got, e := Symbol(sources, size, id); e != api.OK || !bytes.Equal(got, want) {
					t.Fatalf("%d sources of %d, id %d: %d, %d, not %d", k, size, id, got, e, want)
				}
			}
			got, e := Symbols(sources, size, ids())
			if e != api.OK || !same(got, plainSymbols(sources, size, ids())) {
				t.Fatalf("%d sources of %d: %d", k, size, e)
			}
		}
	}
}

func TestOfEachSize(t *testing.T) {
	r := rand.New(rand.NewSource(10))
	for size := 1; size <= 256; size++ {
		sources := some(r, 5, size)
		for _, id := range ids()[:12] {
			want := plainSymbol(sources, size, id)
			if got, e := Symbol(sources, size, id); e != api.OK || !bytes.Equal(got, want) {
				t.Fatalf("size %d, id %d: %d, %d, not %d", size, id, got, e, want)
			}
		}
		got, e := Symbols(sources, size, ids()[:12])
		if e != api.OK || !same(got, plainSymbols(sources, size, ids()[:12])) {
			t.Fatalf("size %d: %d", size, e)
		}
	}
}

func TestOfTheGreatest(t *testing.T) {
	sources := make([][]byte, 64)
	for i := range sources {
		sources[i] = bytes.Repeat([]byte{255 - byte(i)}, 256)
	}
	got, e := Symbols(sources, 256, ids())
	if e != api.OK || len(got) != 64 || !same(got, plainSymbols(sources, 256, ids())) {
		t.Error(e)
	}
}

// A source alone, of a 1, shows its number in the row, and sources without a byte at a place count as 0 there.
func TestSymbolIsTheRow(t *testing.T) {
	for _, k := range []int{1, 8, 9, 33, 64} {
		for _, id := range ids()[:20] {
			of := row.Of(k, id)
			for i := range k {
				sources := make([][]byte, k)
				sources[i] = []byte{0, 1}
				got, e := Symbol(sources, 3, id)
				if e != api.OK || !bytes.Equal(got, []byte{0, of[i], 0}) {
					t.Fatalf("%d sources, source %d, id %d: %d, %d, not %d", k, i, id, got, e, of[i])
				}
			}
		}
	}
}

// Noughts behind a source are what it is filled up with: they change nothing.
func TestFilledUp(t *testing.T) {
	r := rand.New(rand.NewSource(11))
	for _, k := range []int{1, 5, 64} {
		sources := some(r, k, 20)
		full := make([][]byte, k)
		for i := range full {
			full[i] = append(bytes.Clone(sources[i]), make([]byte, 20-len(sources[i]))...)
		}
		got, e := Symbols(sources, 20, ids())
		want, f := Symbols(full, 20, ids())
		if e != api.OK || f != api.OK || !same(got, want) {
			t.Errorf("%d sources: %d, %d", k, e, f)
		}
	}
}

func TestNoughts(t *testing.T) {
	for k := 1; k <= 64; k++ {
		sources := make([][]byte, k)
		for i := range sources {
			sources[i] = make([]byte, i%10)
		}
		got, e := Symbols(sources, 9, ids())
		if e != api.OK || len(got) != len(ids()) {
			t.Fatalf("%d sources: %d symbols, %d", k, len(got), e)
		}
		for i, id := range ids() {
			one, e := Symbol(sources, 9, id)
			if e != api.OK || !bytes.Equal(one, make([]byte, 9)) || !bytes.Equal(got[i], one) {
				t.Fatalf("%d sources, id %d: %d, %d, %d", k, id, one, e, got[i])
			}
		}
	}
}

// Of two lists of sources, added place by place, a symbol is the sum of both symbols.
func TestSymbolsAreSums(t *testing.T) {
	r := rand.New(rand.NewSource(12))
	for k := 1; k <= 64; k++ {
		a, b := some(r, k, 16), some(r, k, 16)
		of, e := Symbols(a, 16, ids())
		by, f := Symbols(b, 16, ids())
		both, g := Symbols(added(a, b), 16, ids())
		if e != api.OK || f != api.OK || g != api.OK || !same(both, added(of, by)) {
			t.Fatalf("%d sources: %d, %d, %d", k, e, f, g)
		}
		for i, id := range ids() {
			one, e := Symbol(added(a, b), 16, id)
			if e != api.OK || !bytes.Equal(one, both[i]) {
				t.Fatalf("%d sources, id %d: %d, %d, not %d", k, id, one, e, both[i])
			}
		}
	}
}

// A list and itself are noughts.
func TestAddedToItself(t *testing.T) {
	r := rand.New(rand.NewSource(13))
	sources := some(r, 20, 30)
	for _, id := range ids() {
		got, e := Symbol(added(sources, sources), 30, id)
		if e != api.OK || !bytes.Equal(got, make([]byte, 30)) {
			t.Errorf("id %d: %d, %d", id, got, e)
		}
	}
}

// Symbols that are made later are those that would have been made at once, in whatever order, and also twice.
func TestSymbolsLater(t *testing.T) {
	sources := some(rand.New(rand.NewSource(14)), 30, 25)
	atOnce, e := Symbols(sources, 25, ids())
	if e != api.OK {
		t.Fatal(e)
	}
	for begin := range ids() {
		got, e := Symbols(sources, 25, ids()[begin:])
		if e != api.OK || !same(got, atOnce[begin:]) {
			t.Fatalf("from %d on: %d", begin, e)
		}
	}
	back := ids()
	slices.Reverse(back)
	slices.Reverse(atOnce)
	if got, e := Symbols(sources, 25, back); e != api.OK || !same(got, atOnce) {
		t.Errorf("back to front: %d", e)
	}
	got, e := Symbols(sources, 25, []uint32{back[0], back[0], back[1], back[0]})
	if e != api.OK || !same(got, [][]byte{atOnce[0], atOnce[0], atOnce[1], atOnce[0]}) {
		t.Errorf("twice: %d", e)
	}
}

func TestSymbolWrong(t *testing.T) {
	for i, c := range wrong() {
		for _, id := range []uint32{0, 77, math.MaxUint32} {
			if got, e := Symbol(c.sources, c.size, id); len(got) != 0 || e != c.want {
				t.Errorf("case %d: %d, %d, not %d", i, got, e, c.want)
			}
		}
		if _, e := precode.Parities(c.sources, c.size); e != c.want {
			t.Errorf("case %d: Parities: %d, not %d", i, e, c.want)
		}
	}
}

// Too many IDs are told of behind all other errors; the others come of no IDs too.
func TestSymbolsWrong(t *testing.T) {
	for i, c := range wrong() {
		for _, list := range [][]uint32{nil, {}, {1}, ids(), make([]uint32, 65), make([]uint32, 1<<20)} {
			if got, e := Symbols(c.sources, c.size, list); len(got) != 0 || e != c.want {
				t.Errorf("case %d, %d ids: %d, %d, not %d", i, len(list), got, e, c.want)
			}
		}
	}
}

func TestSymbolsOfManyIDs(t *testing.T) {
	sources := [][]byte{{1, 2, 3}, {4, 5}}
	for _, c := range []struct {
		n    int
		want api.Errno
	}{{0, api.OK}, {1, api.OK}, {63, api.OK}, {64, api.OK}, {65, api.ErrMany}, {66, api.ErrMany}, {128, api.ErrMany}, {1 << 20, api.ErrMany}} {
		list := make([]uint32, c.n)
		for i := range list {
			list[i] = uint32(i) * 40503
		}
		got, e := Symbols(sources, 3, list)
		if e != c.want {
			t.Errorf("%d ids: %d, not %d", c.n, e, c.want)
		}
		want := [][]byte{}
		if c.want == api.OK {
			want = plainSymbols(sources, 3, list)
		}
		if !same(got, want) {
			t.Errorf("%d ids: %d, not %d", c.n, got, want)
		}
	}
	if got, e := Symbols(sources, 3, nil); e != api.OK || len(got) != 0 {
		t.Errorf("no ids: %d, %d", got, e)
	}
}

// A source that is just as long as the size fits, and so do as many sources as there may be.
func TestJustFits(t *testing.T) {
	for _, c := range []struct{ k, size int }{{1, 1}, {1, 256}, {64, 1}, {64, 256}} {
		sources := make([][]byte, c.k)
		for i := range sources {
			sources[i] = bytes.Repeat([]byte{byte(i + 1)}, c.size)
		}
		for _, id := range ids() {
			got, e := Symbol(sources, c.size, id)
			if e != api.OK || !bytes.Equal(got, plainSymbol(sources, c.size, id)) {
				t.Fatalf("%d sources of %d, id %d: %d, %d", c.k, c.size, id, got, e)
			}
		}
	}
}

// What lies behind a source in its memory is neither summed nor changed, nor are the lists.
func TestArgumentsAreLeft(t *testing.T) {
	memory := bytes.Repeat([]byte{9, 8, 7}, 20)
	before := bytes.Clone(memory)
	sources := [][]byte{memory[:2], memory[10:15], memory[20:20], memory[30:38]}
	list := append(make([][]byte, 0, 6), sources...)
	asked := append(make([]uint32, 0, 9), ids()[:7]...)
	want := plainSymbols(sources, 8, asked)
	got, e := Symbols(list, 8, asked)
	one, f := Symbol(list, 8, asked[0])
	if e != api.OK || f != api.OK || !same(got, want) || !bytes.Equal(one, want[0]) {
		t.Errorf("%d, %d, %d, %d", got, e, one, f)
	}
	if !bytes.Equal(memory, before) || !same(list, sources) || list[:6][4] != nil || list[:6][5] != nil {
		t.Error("the sources have changed")
	}
	if !slices.Equal(asked[:9], append(ids()[:7], 0, 0)) {
		t.Error("the ids have changed")
	}
	for i := range memory {
		memory[i] = 77
	}
	clear(list[:6])
	clear(asked[:9])
	if !same(got, want) || !bytes.Equal(one, want[0]) {
		t.Error("the symbols change with the arguments")
	}
}

// spoil writes over all of a list's members, their spare room too.
func spoil(list ...[]byte) {
	for _, b := range list {
		b = b[:cap(b)]
		for i := range b {
			b[i] = 200
		}
	}
}

func TestAnswersAreNew(t *testing.T) {
	for _, sources := range [][][]byte{{{1, 2, 3}}, {{1, 2, 3}, {4, 5}, {6}}, ramp()} {
		before := make([][]byte, len(sources))
		for i := range sources {
			before[i] = bytes.Clone(sources[i])
		}
		asked := append(ids()[:20], ids()[0], 730)
		want := plainSymbols(sources, 3, asked)
		got, _ := Symbols(sources, 3, asked)
		for i, id := range asked {
			one, _ := Symbol(sources, 3, id)
			spoil(got[i], one)
			if !same(got[i+1:], want[i+1:]) || !same(sources, before) {
				t.Fatalf("%d sources: symbol %d shares memory", len(sources), i)
			}
			if again, e := Symbol(sources, 3, id); e != api.OK || !bytes.Equal(again, want[i]) {
				t.Fatalf("%d sources, id %d: %d, %d, not %d", len(sources), id, again, e, want[i])
			}
		}
		clear(got[:cap(got)])
		if again, e := Symbols(sources, 3, asked); e != api.OK || !same(again, want) {
			t.Fatalf("%d sources: %d, %d, not %d", len(sources), again, e, want)
		}
	}
}

// No call hangs on the ones ahead of it, failed ones among them.
func TestCallsAreByThemselves(t *testing.T) {
	sources := [][]byte{{1, 2, 3}, {4, 5}}
	want := plainSymbols(sources, 3, ids())
	for i, c := range wrong() {
		Symbol(c.sources, c.size, 7)
		Symbols(c.sources, c.size, ids())
		Symbols(sources, 3, make([]uint32, 65))
		Symbol(ramp(), 3, uint32(i))
		got, e := Symbols(sources, 3, ids())
		one, f := Symbol(sources, 3, ids()[i])
		if e != api.OK || f != api.OK || !same(got, want) || !bytes.Equal(one, want[i]) {
			t.Fatalf("behind case %d: %d, %d", i, e, f)
		}
	}
}
