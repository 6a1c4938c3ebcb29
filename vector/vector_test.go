package vector

import (
	"bytes"
	"math/rand"
	"testing"

	"geyser/api"
)

// plainMul is chapter 3's product, of polynomials first, the rest of a division by 11d then: it holds the
// vectors against the document, not against package field.
func plainMul(a, b byte) byte {
	product := 0
	for i := range 8 {
		product ^= int(a) * int(b>>i&1) << i
	}
	for i := 14; i >= 8; i-- {
		if product>>i&1 == 1 {
			product ^= 0x11d << (i - 8)
		}
	}
	return byte(product)
}

// allBytes has each number once.
func allBytes() []byte {
	b := make([]byte, 256)
	for i := range b {
		b[i] = byte(i)
	}
	return b
}

func chance(r *rand.Rand, size int) []byte {
	b := make([]byte, size)
	r.Read(b)
	return b
}

func TestAxpyKnown(t *testing.T) {
	for _, c := range []struct {
		a, b []byte
		c    byte
		want []byte
	}{
		{[]byte{1, 2}, []byte{1, 1}, 1, []byte{0, 3}},
		{[]byte{1, 2}, []byte{1, 1}, 0, []byte{1, 2}},
		{[]byte{1, 2}, []byte{128, 3}, 2, []byte{28, 4}},
		{[]byte{0}, []byte{128}, 128, []byte{19}},
		{[]byte{226}, []byte{255}, 255, []byte{0}},
		{[]byte{7, 0, 9}, []byte{0, 0, 0}, 255, []byte{7, 0, 9}},
	} {
		got, e := Axpy(c.a, c.b, c.c)
		if e != api.OK || !bytes.Equal(got, c.want) {
			t.Errorf("Axpy(%d, %d, %d): %d, %d", c.a, c.b, c.c, got, e)
		}
	}
}

func TestAxpyOfEachFactor(t *testing.T) {
	r := rand.New(rand.NewSource(1))
	b := allBytes()
	for c := range 256 {
		a := chance(r, len(b))
		got, e := Axpy(a, b, byte(c))
		if e != api.OK || len(got) != len(a) {
			t.Fatalf("times %d: %d bytes, %d", c, len(got), e)
		}
		for i := range got {
			if want := a[i] ^ plainMul(b[i], byte(c)); got[i] != want {
				t.Fatalf("%d and %d times %d: %d, not %d", a[i], c, b[i], got[i], want)
			}
		}
	}
}

func TestScaleKnown(t *testing.T) {
	for _, c := range []struct {
		a    []byte
		c    byte
		want []byte
	}{
		{[]byte{128, 3, 0, 1}, 2, []byte{29, 6, 0, 2}},
		{[]byte{5, 200, 255}, 1, []byte{5, 200, 255}},
		{[]byte{5, 200, 255}, 0, []byte{0, 0, 0}},
		{[]byte{128, 16}, 128, []byte{19, 232}},
	} {
		if got := Scale(c.a, c.c); !bytes.Equal(got, c.want) {
			t.Errorf("Scale(%d, %d): %d", c.a, c.c, got)
		}
	}
}

func TestScaleOfEachFactor(t *testing.T) {
	a := allBytes()
	for c := range 256 {
		got := Scale(a, byte(c))
		if len(got) != len(a) {
			t.Fatalf("times %d: %d bytes", c, len(got))
		}
		for i := range got {
			if want := plainMul(a[i], byte(c)); got[i] != want {
				t.Fatalf("%d times %d: %d, not %d", c, a[i], got[i], want)
			}
		}
	}
}

func TestDotKnown(t *testing.T) {
	for _, c := range []struct {
		a, b []byte
		want byte
	}{
		{[]byte{2}, []byte{128}, 29},
		{[]byte{1, 2}, []byte{3, 4}, 11},
		{[]byte{1, 1}, []byte{7, 7}, 0},
		{[]byte{2, 3, 0}, []byte{128, 7, 255}, 20},
		{[]byte{0, 0}, []byte{255, 255}, 0},
	} {
		got, e := Dot(c.a, c.b)
		if e != api.OK || got != c.want {
			t.Errorf("Dot(%d, %d): %d, %d", c.a, c.b, got, e)
		}
	}
}

func TestDotOfEachPair(t *testing.T) {
	for a := range 256 {
		for b := range 256 {
			got, e := Dot([]byte{byte(a)}, []byte{byte(b)})
			if want := plainMul(byte(a), byte(b)); e != api.OK || got != want {
				t.Fatalf("Dot of %d and %d: %d, %d, not %d", a, b, got, e, want)
			}
		}
	}
}

func TestDotAtAllLengths(t *testing.T) {
	r := rand.New(rand.NewSource(2))
	for size := range 300 {
		a, b := chance(r, size), chance(r, size)
		var want byte
		for i := range a {
			want ^= plainMul(a[i], b[i])
		}
		if got, e := Dot(a, b); e != api.OK || got != want {
			t.Errorf("%d bytes: %d, %d, not %d", size, got, e, want)
		}
	}
}

// One number that isn't 0 is seen at each place, whichever of its bits is set.
func TestZero(t *testing.T) {
	for _, size := range []int{1, 2, 7, 8, 9, 64, 65, api.MaxSlice} {
		a := make([]byte, size)
		if !Zero(a) {
			t.Errorf("%d noughts", size)
		}
		for at := range a {
			for _, x := range []byte{1, 2, 4, 8, 16, 32, 64, 128, 255} {
				a[at] = x
				if Zero(a) {
					t.Errorf("%d at %d of %d", x, at, size)
				}
			}
			a[at] = 0
		}
	}
	if Zero([]byte{1, 1}) || Zero([]byte{3, 2, 1}) {
		t.Error("the numbers' sum is 0, they aren't")
	}
}

// What lies in the spare room is no number of the vector.
func TestZeroLooksAtNoSpareRoom(t *testing.T) {
	room := []byte{0, 0, 1}
	if !Zero(room[:2]) || !Zero(room[:0]) {
		t.Error("the spare room is seen")
	}
}

func TestTwoLengths(t *testing.T) {
	room := bytes.Repeat([]byte{9}, 300)
	for _, c := range [][2]int{{0, 1}, {1, 0}, {1, 2}, {2, 1}, {255, 256}, {256, 255}, {0, 300}, {300, 0}} {
		a, b := room[:c[0]], room[:c[1]]
		if got, e := Axpy(a, b, 1); len(got) != 0 || e != api.ErrArg {
			t.Errorf("Axpy of %d and %d: %d, %d", c[0], c[1], got, e)
		}
		if got, e := Axpy(a, b, 0); len(got) != 0 || e != api.ErrArg {
			t.Errorf("Axpy of %d and none of %d: %d, %d", c[0], c[1], got, e)
		}
		if got, e := Dot(a, b); got != 0 || e != api.ErrArg {
			t.Errorf("Dot of %d and %d: %d, %d", c[0], c[1], got, e)
		}
	}
	if got, e := Axpy(nil, []byte{0}, 0); len(got) != 0 || e != api.ErrArg {
		t.Errorf("Axpy of none and a nought: %d, %d", got, e)
	}
	if got, e := Dot([]byte{0}, nil); got != 0 || e != api.ErrArg {
		t.Errorf("Dot of a nought and none: %d, %d", got, e)
	}
}

// No bytes are a vector too, nil or empty.
func TestNoBytes(t *testing.T) {
	none := [][]byte{nil, {}, make([]byte, 0, 5)}
	for _, a := range none {
		for _, b := range none {
			if got, e := Axpy(a, b, 255); len(got) != 0 || e != api.OK {
				t.Errorf("Axpy: %d, %d", got, e)
			}
			if got, e := Dot(a, b); got != 0 || e != api.OK {
				t.Errorf("Dot: %d, %d", got, e)
			}
		}
		if got := Scale(a, 255); len(got) != 0 {
			t.Errorf("Scale: %d", got)
		}
		if !Zero(a) {
			t.Error("Zero of none")
		}
	}
}

// What is handed in stays as it is, its spare room too, at all factors.
func TestVectorsAreLeft(t *testing.T) {
	r := rand.New(rand.NewSource(3))
	for c := range 256 {
		a, b := chance(r, 40), chance(r, 40)
		wasA, wasB := bytes.Clone(a), bytes.Clone(b)
		Axpy(a[:20], b[:20], byte(c))
		Axpy(a[:20], b[:21], byte(c))
		Scale(a[:20], byte(c))
		Dot(a[:20], b[:20])
		Zero(a[:20])
		if !bytes.Equal(a, wasA) || !bytes.Equal(b, wasB) {
			t.Fatalf("times %d: changed", c)
		}
	}
}

// spoil writes over an answer and its spare room.
func spoil(b []byte) {
	b = b[:cap(b)]
	for i := range b {
		b[i] ^= 255
	}
}

// An answer is new memory, also where it tells the same bytes as an argument: times 0 and times 1.
func TestAnswersAreNew(t *testing.T) {
	r := rand.New(rand.NewSource(4))
	for _, c := range []byte{0, 1, 2, 255} {
		for _, size := range []int{0, 1, 20} {
			a, b := chance(r, 40), chance(r, 40)
			wasA, wasB := bytes.Clone(a), bytes.Clone(b)
			sum, _ := Axpy(a[:size], b[:size], c)
			same, _ := Axpy(a[:size], a[:size], c)
			product := Scale(a[:size], c)
			again := bytes.Clone(product)
			spoil(sum)
			spoil(same)
			if !bytes.Equal(product, again) {
				t.Errorf("times %d, %d bytes: two answers share memory", c, size)
			}
			spoil(product)
			if !bytes.Equal(a, wasA) || !bytes.Equal(b, wasB) {
				t.Errorf("times %d, %d bytes: shares memory with an argument", c, size)
			}
		}
	}
}

// One vector, or overlapping pieces of one, may stand at both places.
func TestOneVectorTwice(t *testing.T) {
	r := rand.New(rand.NewSource(5))
	for _, size := range []int{1, 2, 30} {
		room := chance(r, size+1)
		a, b := room[:size], room[1:]
		for c := range 256 {
			got, _ := Axpy(a, b, byte(c))
			want, _ := Axpy(bytes.Clone(a), bytes.Clone(b), byte(c))
			if !bytes.Equal(got, want) {
				t.Fatalf("times %d, %d bytes: %d, not %d", c, size, got, want)
			}
		}
		if got, e := Axpy(a, a, 1); e != api.OK || len(got) != size || !Zero(got) {
			t.Errorf("a and a: %d, %d", got, e)
		}
	}
}

// A call answers the same whatever was asked ahead of it.
func TestNothingIsKept(t *testing.T) {
	a, b := []byte{1, 2, 3}, []byte{200, 0, 77}
	first, _ := Axpy(a, b, 9)
	product := Scale(a, 9)
	dot, _ := Dot(a, b)
	Axpy(b, a, 255)
	Axpy(a, b[:1], 9)
	Scale(b, 0)
	Dot(b, b)
	Zero(b)
	second, _ := Axpy(a, b, 9)
	again, _ := Dot(a, b)
	if !bytes.Equal(first, second) || !bytes.Equal(product, Scale(a, 9)) || dot != again {
		t.Error("not the same again")
	}
}

// A vector of many bytes ends soon.
func TestLongVectors(t *testing.T) {
	r := rand.New(rand.NewSource(6))
	a := chance(r, api.MaxDisk)
	got, e := Axpy(a, a, 254)
	if e != api.OK || !bytes.Equal(got, Scale(a, 255)) {
		t.Error("a and 254 times a is 255 times a")
	}
	var want byte
	for _, x := range a {
		want ^= plainMul(x, x)
	}
	if dot, e := Dot(a, a); e != api.OK || dot != want {
		t.Errorf("Dot: %d, %d, not %d", dot, e, want)
	}
}
