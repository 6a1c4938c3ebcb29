package field

import (
	"math"
	"testing"
)

// plainMul is the chapter's product: of polynomials first, the rest of a division by 11d then.
func plainMul(a, b byte) byte {
	product := 0
	for i := range 8 {
		for j := range 8 {
			product ^= int(a>>i&1) * int(b>>j&1) << (i + j)
		}
	}
	for i := 14; i >= 8; i-- {
		if product>>i&1 == 1 {
			product ^= 0x11d << (i - 8)
		}
	}
	return byte(product)
}

// plainInv looks for an inverse among all numbers.
func plainInv(a byte) byte {
	for b := range 256 {
		if plainMul(a, byte(b)) == 1 {
			return byte(b)
		}
	}
	return 0
}

func TestAddOfEachPair(t *testing.T) {
	for a := range 256 {
		for b := range 256 {
			if got := Add(byte(a), byte(b)); got != byte(a^b) {
				t.Fatalf("Add(%d, %d): %d", a, b, got)
			}
		}
	}
}

func TestMulKnown(t *testing.T) {
	for _, c := range []struct{ a, b, want byte }{
		{2, 128, 29},
		{128, 2, 29},
		{0, 0, 0},
		{0, 255, 0},
		{255, 0, 0},
		{1, 1, 1},
		{1, 255, 255},
		{255, 1, 255},
		{2, 2, 4},
		{3, 3, 5},
		{3, 7, 9},
		{16, 16, 29},
		{128, 128, 19},
		{255, 255, 226},
		{2, 142, 1},
	} {
		if got := Mul(c.a, c.b); got != c.want {
			t.Errorf("Mul(%d, %d): %d, not %d", c.a, c.b, got, c.want)
		}
	}
}

func TestMulOfEachPair(t *testing.T) {
	for a := range 256 {
		for b := range 256 {
			if got, want := Mul(byte(a), byte(b)), plainMul(byte(a), byte(b)); got != want {
				t.Fatalf("Mul(%d, %d): %d, not %d", a, b, got, want)
			}
		}
	}
}

// The laws of a field hold for products as the chapter has them and for no slip of a single bit.
func TestMulLaws(t *testing.T) {
	for a := range 256 {
		for b := range 256 {
			p, q := byte(a), byte(b)
			if Mul(p, q) != Mul(q, p) {
				t.Fatalf("%d, %d: their order is seen", a, b)
			}
			if a != 0 && b != 0 && Mul(p, q) == 0 {
				t.Fatalf("%d, %d: the product is 0", a, b)
			}
			r := byte(a*7 + b*31 + 5)
			if Mul(p, Add(q, r)) != Add(Mul(p, q), Mul(p, r)) {
				t.Fatalf("%d, %d, %d: not the sum of products", a, b, r)
			}
			if Mul(p, Mul(q, r)) != Mul(Mul(p, q), r) {
				t.Fatalf("%d, %d, %d: hangs on what is multiplied first", a, b, r)
			}
		}
	}
}

func TestInvKnown(t *testing.T) {
	for _, c := range []struct{ a, want byte }{
		{0, 0},
		{1, 1},
		{2, 142},
		{142, 2},
		{3, 244},
		{255, 253},
		{253, 255},
	} {
		if got := Inv(c.a); got != c.want {
			t.Errorf("Inv(%d): %d, not %d", c.a, got, c.want)
		}
	}
}

func TestInvOfEachNumber(t *testing.T) {
	for a := range 256 {
		got := Inv(byte(a))
		if want := plainInv(byte(a)); got != want {
			t.Errorf("Inv(%d): %d, not %d", a, got, want)
		}
		if a != 0 && plainMul(byte(a), got) != 1 {
			t.Errorf("%d times %d isn't 1", a, got)
		}
	}
}

func TestPowKnown(t *testing.T) {
	for _, c := range []struct {
		a    byte
		n    int
		want byte
	}{
		{2, 0, 1},
		{2, 1, 2},
		{2, 7, 128},
		{2, 8, 29},
		{2, 254, 142},
		{2, 255, 1},
		{2, 256, 2},
		{2, -1, 142},
		{2, -255, 1},
		{255, 2, 226},
		{1, 1000, 1},
	} {
		if got := Pow(c.a, c.n); got != c.want {
			t.Errorf("Pow(%d, %d): %d, not %d", c.a, c.n, got, c.want)
		}
	}
}

// Products are multiplied up one by one, beyond two rounds of 255 on both sides of 0.
func TestPowOfEachNumber(t *testing.T) {
	for a := range 256 {
		up, down := byte(1), byte(1)
		inverse := plainInv(byte(a))
		for n := range 800 {
			if got := Pow(byte(a), n); got != up {
				t.Fatalf("Pow(%d, %d): %d, not %d", a, n, got, up)
			}
			if got := Pow(byte(a), -n); got != down {
				t.Fatalf("Pow(%d, %d): %d, not %d", a, -n, got, down)
			}
			up, down = plainMul(up, byte(a)), plainMul(down, inverse)
		}
	}
}

func TestPowOfNought(t *testing.T) {
	if Pow(0, 0) != 1 {
		t.Error("0 times 0 is 1")
	}
	for _, n := range []int{math.MinInt, -510, -255, -254, -1, 1, 2, 254, 255, 256, 510, math.MaxInt} {
		if got := Pow(0, n); got != 0 {
			t.Errorf("Pow(0, %d): %d", n, got)
		}
	}
}

// The greatest int is 127 beyond a multiple of 255, and the least 127 too, whether an int has 32 or 64 bits.
func TestPowOfTheGreatest(t *testing.T) {
	for a := 1; a < 256; a++ {
		want := byte(1)
		for range 127 {
			want = plainMul(want, byte(a))
		}
		for n, times := range map[int]byte{
			math.MaxInt:     want,
			math.MaxInt - 1: plainMul(want, plainInv(byte(a))),
			math.MinInt:     want,
			math.MinInt + 1: plainMul(want, byte(a)),
		} {
			if got := Pow(byte(a), n); got != times {
				t.Fatalf("Pow(%d, %d): %d, not %d", a, n, got, times)
			}
		}
	}
}

// A call answers the same whatever was asked ahead of it.
func TestNothingIsKept(t *testing.T) {
	for a := range 256 {
		p := byte(a)
		mul, inv, pow := Mul(p, 77), Inv(p), Pow(p, -13)
		Mul(0, p)
		Inv(0)
		Pow(0, math.MinInt)
		if Mul(p, 77) != mul || Inv(p) != inv || Pow(p, -13) != pow {
			t.Fatalf("%d: not the same again", a)
		}
	}
}
