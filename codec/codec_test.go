package codec

import (
	"bytes"
	"math"
	"math/big"
	"math/rand"
	"slices"
	"strings"
	"testing"

	"geyser/api"
)

// below are what the numbers of each size are below, written out.
var below = [7]int64{0, 256, 65536, 16777216, 4294967296, 1099511627776, 281474976710656}

// noSizes are sizes that no number has; some become 1 to 6, or small shifts, where their upper bits are lost.
var noSizes = []int{0, -1, 7, 8, 9, -6, 16, 32, 64, 255, 256, 257, 1 << 29, 1<<32 + 1, -1<<32 + 6, 1<<61 + 1, math.MaxInt,
	math.MinInt, math.MinInt + 1}

// noLengths are lengths that no bytes have.
var noLengths = []int{-1, -2, -255, -256, -1 << 31, -1 << 32, math.MinInt, math.MinInt + 1}

// write is one call of an Out.
type write struct {
	kind int
	v    int64
	size int
	text string
	raw  []byte
}

const (
	number = iota
	text
	raw
)

func (w write) to(o *Out) {
	switch w.kind {
	case number:
		o.N(w.v, w.size)
	case text:
		o.Text(w.text)
	default:
		o.Raw(w.raw)
	}
}

// plain is what the write comes to, worked out apart from the program.
func (w write) plain() []byte {
	switch w.kind {
	case number:
		return big.NewInt(w.v).FillBytes(make([]byte, w.size))
	case text:
		return []byte(string([]byte{byte(len(w.text))}) + w.text)
	}
	return w.raw
}

// checkBack reads it, and tells whether it is what was written.
func (w write) checkBack(t *testing.T, in *In) {
	t.Helper()
	switch w.kind {
	case number:
		if v := in.N(w.size); v != w.v {
			t.Fatalf("N(%d): %d, not %d", w.size, v, w.v)
		}
	case text:
		if s := in.Text(); s != w.text {
			t.Fatalf("Text: %q, not %q", s, w.text)
		}
	default:
		if b := in.Raw(len(w.raw)); !bytes.Equal(b, w.raw) {
			t.Fatalf("Raw: %v, not %v", b, w.raw)
		}
	}
}

func chance(r *rand.Rand, size int) []byte {
	b := make([]byte, size)
	r.Read(b)
	return b
}

// someWrites makes writes by chance, all of which fit.
func someWrites(r *rand.Rand, count int) []write {
	l := make([]write, count)
	for i := range l {
		switch l[i].kind = r.Intn(3); l[i].kind {
		case number:
			l[i].size = 1 + r.Intn(6)
			l[i].v = r.Int63n(below[1+r.Intn(l[i].size)])
		case text:
			l[i].text = string(chance(r, r.Intn(256)>>r.Intn(9)))
		default:
			l[i].raw = chance(r, r.Intn(600)>>r.Intn(11))
		}
	}
	return l
}

// wrongWrites don't fit.
func wrongWrites() []write {
	l := []write{}
	for size := 1; size <= 6; size++ {
		for _, v := range []int64{-1, -2, -255, -256, -below[size], -below[size] + 1, math.MinInt64, math.MinInt64 + 1,
			below[size], below[size] + 1, 2*below[size] - 1, 255 * below[size], 1 << 48, 1 << 56, 1 << 62, math.MaxInt64} {
			l = append(l, write{kind: number, v: v, size: size})
		}
	}
	for _, size := range noSizes {
		for _, v := range []int64{0, 1, 255, -1, math.MaxInt64, math.MinInt64} {
			l = append(l, write{kind: number, v: v, size: size})
		}
	}
	for _, size := range []int{256, 257, 300, 511, 512, 513, 1 << 16, 1<<16 + 1, 1 << 20} {
		l = append(l, write{kind: text, text: strings.Repeat("a", size)})
	}
	return append(l, write{kind: text, text: strings.Repeat("ä", 128)})
}

func checkEnd(t *testing.T, o *Out, want []byte) {
	t.Helper()
	if got, e := o.End(); e != api.OK || !bytes.Equal(got, want) {
		t.Fatalf("End: %v, %d, not %v", got, e, want)
	}
}

func checkSpoilt(t *testing.T, o *Out) {
	t.Helper()
	if got, e := o.End(); e != api.ErrArg || got != nil {
		t.Fatalf("End of a spoilt one: %v, %d", got, e)
	}
}

// checkState holds an In that isn't bad against how many bytes should be left.
func checkState(t *testing.T, in *In, left int) {
	t.Helper()
	if in.Left() != left || in.Bad() || in.Done() != (left == 0) {
		t.Fatalf("Left %d, Bad %v, Done %v, with %d left", in.Left(), in.Bad(), in.Done(), left)
	}
}

// checkBad asks a bad In for all kinds of things, those among them that any other one has.
func checkBad(t *testing.T, in *In) {
	t.Helper()
	for range 2 {
		for _, size := range append([]int{1, 2, 3, 4, 5, 6}, noSizes...) {
			if v := in.N(size); v != 0 {
				t.Fatalf("N(%d) of a bad one: %d", size, v)
			}
		}
		if s := in.Text(); s != "" {
			t.Fatalf("Text of a bad one: %q", s)
		}
		for _, n := range append([]int{0, 1, 2, math.MaxInt}, noLengths...) {
			if b := in.Raw(n); len(b) != 0 {
				t.Fatalf("Raw(%d) of a bad one: %v", n, b)
			}
		}
		if !in.Bad() || in.Left() != 0 || in.Done() {
			t.Fatalf("a bad one: Bad %v, Left %d, Done %v", in.Bad(), in.Left(), in.Done())
		}
	}
}

func TestExample(t *testing.T) {
	var o Out
	o.Text("ab")
	checkEnd(t, &o, []byte{2, 'a', 'b'})
	in := NewIn([]byte{2, 'a', 'b'})
	if s := in.Text(); s != "ab" {
		t.Errorf("%q", s)
	}
	checkState(t, in, 0)
}

// Writes and their bytes, written out by hand.
func TestKnownBytes(t *testing.T) {
	for _, c := range []struct {
		w    write
		want []byte
	}{
		{write{kind: number, v: 0, size: 1}, []byte{0}},
		{write{kind: number, v: 255, size: 1}, []byte{255}},
		{write{kind: number, v: 1, size: 2}, []byte{0, 1}},
		{write{kind: number, v: 256, size: 2}, []byte{1, 0}},
		{write{kind: number, v: 65535, size: 2}, []byte{255, 255}},
		{write{kind: number, v: 0x010203, size: 3}, []byte{1, 2, 3}},
		{write{kind: number, v: 0x010203, size: 6}, []byte{0, 0, 0, 1, 2, 3}},
		{write{kind: number, v: 0xfffffffe, size: 4}, []byte{255, 255, 255, 254}},
		{write{kind: number, v: 0x80ff7f0100, size: 5}, []byte{128, 255, 127, 1, 0}},
		{write{kind: number, v: 0xfffefdfcfbfa, size: 6}, []byte{255, 254, 253, 252, 251, 250}},
		{write{kind: number, v: 1<<48 - 1, size: 6}, []byte{255, 255, 255, 255, 255, 255}},
		{write{kind: number, v: 0, size: 6}, make([]byte, 6)},
		{write{kind: text, text: ""}, []byte{0}},
		{write{kind: text, text: "\x00"}, []byte{1, 0}},
		{write{kind: text, text: "\xff\x00\x80"}, []byte{3, 255, 0, 128}},
		{write{kind: text, text: "ä€"}, []byte{5, 0xc3, 0xa4, 0xe2, 0x82, 0xac}},
		{write{kind: raw, raw: nil}, nil},
		{write{kind: raw, raw: []byte{}}, []byte{}},
		{write{kind: raw, raw: []byte{0}}, []byte{0}},
		{write{kind: raw, raw: []byte{2, 'a', 'b'}}, []byte{2, 'a', 'b'}},
	} {
		var o Out
		c.w.to(&o)
		checkEnd(t, &o, c.want)
		in := NewIn(c.want)
		c.w.checkBack(t, in)
		checkState(t, in, 0)
	}
}

// Bytes don't tell how they were written: an In reads them as it is asked to.
func TestOrderOfWrites(t *testing.T) {
	var o Out
	o.N(7, 1)
	o.Raw([]byte{8, 9})
	o.Text("x")
	o.N(0x0a07, 2)
	o.Text("")
	o.Raw(nil)
	o.N(1, 6)
	want := []byte{7, 8, 9, 1, 'x', 10, 7, 0, 0, 0, 0, 0, 0, 1}
	checkEnd(t, &o, want)
	in := NewIn(want)
	if v := in.N(3); v != 0x070809 || in.Left() != 11 {
		t.Errorf("%x, %d left", v, in.Left())
	}
	if b := in.Raw(3); !bytes.Equal(b, []byte{1, 'x', 10}) || in.Left() != 8 {
		t.Errorf("%v, %d left", b, in.Left())
	}
	if s := in.Text(); s != "\x00\x00\x00\x00\x00\x00\x01" || !in.Done() {
		t.Errorf("%q, %d left", s, in.Left())
	}
}

func TestNumbersAtTheEdges(t *testing.T) {
	r := rand.New(rand.NewSource(1))
	for size := 1; size <= 6; size++ {
		values := []int64{}
		for _, edge := range below[:size+1] {
			values = append(values, edge-1, edge, edge+1, edge/2, edge/2-1)
		}
		for range 1000 {
			values = append(values, r.Int63n(below[size]))
		}
		for _, v := range values {
			w := write{kind: number, v: v, size: size}
			var o Out
			w.to(&o)
			if v < 0 || v >= below[size] {
				checkSpoilt(t, &o)
				continue
			}
			checkEnd(t, &o, w.plain())
			in := NewIn(w.plain())
			w.checkBack(t, in)
			checkState(t, in, 0)
		}
	}
}

func TestAllNumbersOfTwoBytes(t *testing.T) {
	var o Out
	want := []byte{}
	for v := range 1 << 16 {
		o.N(int64(v), 2)
		want = append(want, byte(v>>8), byte(v))
	}
	checkEnd(t, &o, want)
	in := NewIn(want)
	for v := range 1 << 16 {
		if got := in.N(2); got != int64(v) {
			t.Fatalf("%d, not %d", got, v)
		}
		checkState(t, in, 2*(1<<16-1-v))
	}
}

func TestTextsOfAllLengths(t *testing.T) {
	r := rand.New(rand.NewSource(2))
	for size := range 256 {
		for _, s := range []string{string(chance(r, size)), strings.Repeat("\x00", size), strings.Repeat("\xff", size)} {
			w := write{kind: text, text: s}
			var o Out
			o.Text(s)
			checkEnd(t, &o, w.plain())
			in := NewIn(append(w.plain(), 1, 2, 3))
			w.checkBack(t, in)
			checkState(t, in, 3)
		}
	}
}

func TestRawsOfAllLengths(t *testing.T) {
	r := rand.New(rand.NewSource(3))
	for _, size := range []int{0, 1, 2, 6, 7, 8, 255, 256, 257, 1000, 1 << 16, 1 << 20} {
		b := chance(r, size)
		var o Out
		o.Raw(b)
		checkEnd(t, &o, b)
		o.N(9, 1)
		checkEnd(t, &o, append(slices.Clone(b), 9))
		in := NewIn(b)
		checkState(t, in, size)
		if got := in.Raw(size); !bytes.Equal(got, b) {
			t.Fatalf("%d bytes", size)
		}
		checkState(t, in, 0)
	}
}

// Whatever was written ahead of it, or is written behind it: what doesn't fit spoils all, for ever.
func TestSpoilt(t *testing.T) {
	good := someWrites(rand.New(rand.NewSource(4)), 20)
	for _, wrong := range wrongWrites() {
		for _, ahead := range []int{0, 1, 20} {
			var o Out
			for _, w := range good[:ahead] {
				w.to(&o)
			}
			wrong.to(&o)
			checkSpoilt(t, &o)
			checkSpoilt(t, &o)
			for _, w := range good {
				w.to(&o)
				checkSpoilt(t, &o)
			}
			wrong.to(&o)
			checkSpoilt(t, &o)
		}
	}
}

// End ends nothing: it tells what there is so far.
func TestEndAgain(t *testing.T) {
	var o Out
	want := []byte{}
	checkEnd(t, &o, want)
	checkEnd(t, &o, want)
	for _, w := range someWrites(rand.New(rand.NewSource(5)), 300) {
		w.to(&o)
		want = append(want, w.plain()...)
		checkEnd(t, &o, want)
		checkEnd(t, &o, want)
	}
	o.N(256, 1)
	checkSpoilt(t, &o)
}

func TestBackAndForth(t *testing.T) {
	r := rand.New(rand.NewSource(6))
	for range 300 {
		writes := someWrites(r, r.Intn(40))
		var o Out
		want := []byte{}
		for _, w := range writes {
			w.to(&o)
			want = append(want, w.plain()...)
		}
		checkEnd(t, &o, want)
		in := NewIn(want)
		left := len(want)
		checkState(t, in, left)
		for _, w := range writes {
			w.checkBack(t, in)
			left -= len(w.plain())
			checkState(t, in, left)
		}
		in.N(1)
		checkBad(t, in)
	}
}

// Wherever the bytes break off: what is there is given, and then nothing is, though some bytes are left.
func TestBytesThatBreakOff(t *testing.T) {
	r := rand.New(rand.NewSource(7))
	for range 40 {
		writes := someWrites(r, 6)
		whole := []byte{}
		for _, w := range writes {
			whole = append(whole, w.plain()...)
		}
		for cut := range whole {
			in, at := NewIn(whole[:cut]), 0
			for _, w := range writes {
				at += len(w.plain())
				if at > cut {
					checkMissing(t, w, in)
					break
				}
				w.checkBack(t, in)
				checkState(t, in, cut-at)
			}
		}
	}
}

// checkMissing reads what isn't there.
func checkMissing(t *testing.T, w write, in *In) {
	t.Helper()
	switch w.kind {
	case number:
		if v := in.N(w.size); v != 0 {
			t.Fatalf("N(%d) of what isn't there: %d", w.size, v)
		}
	case text:
		if s := in.Text(); s != "" {
			t.Fatalf("Text of what isn't there: %q", s)
		}
	default:
		if b := in.Raw(len(w.raw)); len(b) != 0 {
			t.Fatalf("Raw of what isn't there: %v", b)
		}
	}
	checkBad(t, in)
}

func TestNumbersThatAreNotThere(t *testing.T) {
	for left := range 10 {
		b := bytes.Repeat([]byte{0xff}, left)
		for size := 1; size <= 6; size++ {
			in := NewIn(b)
			got := in.N(size)
			if size > left {
				if got != 0 {
					t.Fatalf("N(%d) of %d bytes: %d", size, left, got)
				}
				checkBad(t, in)
				continue
			}
			if got != below[size]-1 {
				t.Fatalf("N(%d) of %d bytes: %d", size, left, got)
			}
			checkState(t, in, left-size)
		}
		for _, size := range noSizes {
			in := NewIn(b)
			if got := in.N(size); got != 0 {
				t.Fatalf("N(%d) of %d bytes: %d", size, left, got)
			}
			checkBad(t, in)
		}
	}
}

func TestTextsThatAreNotThere(t *testing.T) {
	for size := range 256 {
		for _, left := range []int{0, 1, size - 1, size, size + 1, 254, 255, 256} {
			b := append([]byte{byte(size)}, bytes.Repeat([]byte{'x'}, max(left, 0))...)
			in := NewIn(b)
			got := in.Text()
			if size > left {
				if got != "" {
					t.Fatalf("a text of %d with %d bytes: %q", size, left, got)
				}
				checkBad(t, in)
				continue
			}
			if got != strings.Repeat("x", size) {
				t.Fatalf("a text of %d with %d bytes: %q", size, left, got)
			}
			checkState(t, in, left-size)
		}
	}
	in := NewIn(nil)
	if s := in.Text(); s != "" {
		t.Errorf("%q", s)
	}
	checkBad(t, in)
}

func TestRawsThatAreNotThere(t *testing.T) {
	for left := range 10 {
		b := bytes.Repeat([]byte{7}, left)
		for _, n := range append([]int{left + 1, left + 2, 100, 1 << 32, math.MaxInt, math.MaxInt - 1}, noLengths...) {
			in := NewIn(b)
			if got := in.Raw(n); len(got) != 0 {
				t.Fatalf("Raw(%d) of %d bytes: %v", n, left, got)
			}
			checkBad(t, in)
		}
	}
}

// No bytes are there always, but in a bad one.
func TestNoBytes(t *testing.T) {
	for _, b := range [][]byte{nil, {}, {1}, {1, 2, 3}} {
		in := NewIn(b)
		for range 3 {
			if got := in.Raw(0); len(got) != 0 {
				t.Fatalf("Raw(0): %v", got)
			}
			checkState(t, in, len(b))
		}
		in.Raw(len(b))
		if got := in.Raw(0); len(got) != 0 {
			t.Fatalf("Raw(0): %v", got)
		}
		checkState(t, in, 0)
	}
	var o Out
	o.Raw(nil)
	o.Raw([]byte{})
	checkEnd(t, &o, nil)
}

// Any calls of any bytes, held against a plain reader.
func TestAnyReads(t *testing.T) {
	r := rand.New(rand.NewSource(8))
	for range 3000 {
		b := chance(r, r.Intn(80))
		for i := range b {
			b[i] >>= r.Intn(8)
		}
		in, left, bad := NewIn(b), b, false
		// next gives so many bytes, or none when they aren't there.
		next := func(n int, right bool) []byte {
			if bad || !right || n < 0 || n > len(left) {
				bad, left = true, nil
				return nil
			}
			got := left[:n]
			left = left[n:]
			return got
		}
		for range 12 {
			n := r.Intn(9) - r.Intn(2)*r.Intn(2)*r.Intn(3)
			switch r.Intn(3) {
			case number:
				want := new(big.Int).SetBytes(next(n, n > 0 && n < 7)).Int64()
				if got := in.N(n); got != want {
					t.Fatalf("N(%d): %d, not %d", n, got, want)
				}
			case text:
				want := ""
				if size := next(1, true); !bad {
					want = string(next(int(size[0]), true))
				}
				if got := in.Text(); got != want {
					t.Fatalf("Text: %q, not %q", got, want)
				}
			default:
				want := next(n, true)
				if got := in.Raw(n); !bytes.Equal(got, want) {
					t.Fatalf("Raw(%d): %v, not %v", n, got, want)
				}
			}
			if in.Left() != len(left) || in.Bad() != bad || in.Done() != (!bad && len(left) == 0) {
				t.Fatalf("Left %d, Bad %v, Done %v of %v", in.Left(), in.Bad(), in.Done(), b)
			}
		}
	}
}

func TestManyWrites(t *testing.T) {
	const count = 1 << 20
	var o Out
	want := make([]byte, count)
	for i := range want {
		want[i] = byte(i >> (i & 7))
		o.N(int64(want[i]), 1)
	}
	checkEnd(t, &o, want)
	in := NewIn(want)
	for i := range want {
		if got := in.N(1); got != int64(want[i]) {
			t.Fatalf("at %d: %d", i, got)
		}
	}
	checkState(t, in, 0)
}

func TestNilOuts(t *testing.T) {
	var o *Out
	for _, w := range append(wrongWrites(), someWrites(rand.New(rand.NewSource(9)), 50)...) {
		w.to(o)
		checkSpoilt(t, o)
	}
}

func TestNilIns(t *testing.T) {
	var in *In
	for range 2 {
		for _, size := range append([]int{1, 2, 3, 4, 5, 6}, noSizes...) {
			if v := in.N(size); v != 0 {
				t.Fatalf("N(%d) of none: %d", size, v)
			}
		}
		if s := in.Text(); s != "" {
			t.Fatalf("Text of none: %q", s)
		}
		for _, n := range append([]int{0, 1, 2, math.MaxInt}, noLengths...) {
			if b := in.Raw(n); len(b) != 0 {
				t.Fatalf("Raw(%d) of none: %v", n, b)
			}
		}
		// Zero for everything, so that it is neither bad nor done.
		if in.Left() != 0 || in.Bad() || in.Done() {
			t.Fatalf("none: Left %d, Bad %v, Done %v", in.Left(), in.Bad(), in.Done())
		}
	}
}

func TestInsOfNoBytes(t *testing.T) {
	for _, in := range []*In{NewIn(nil), NewIn([]byte{}), NewIn(make([]byte, 0, 9)), {}} {
		checkState(t, in, 0)
		in.N(1)
		checkBad(t, in)
	}
}

// fill writes over all memory of a list, its spare room too.
func fill(l []byte) {
	l = l[:cap(l)]
	for i := range l {
		l[i] = 0xee
	}
}

// What is handed in stays as it is, its spare room too, and isn't kept.
func TestBytesAreLeft(t *testing.T) {
	for _, size := range []int{0, 1, 5, 32, 33, 600} {
		memory := chance(rand.New(rand.NewSource(10)), 2*size+9)
		was := slices.Clone(memory)
		var o Out
		o.Raw(memory[:size])
		o.N(3, 1)
		o.Raw(memory[size : 2*size])
		o.Text("t")
		want := append(append(append(slices.Clone(was[:size]), 3), was[size:2*size]...), 1, 't')
		checkEnd(t, &o, want)
		in := NewIn(memory[:size])
		if !bytes.Equal(memory, was) {
			t.Fatal("the bytes have changed")
		}
		clear(memory)
		checkEnd(t, &o, want)
		if got := in.Raw(size); !bytes.Equal(got, was[:size]) {
			t.Fatal("an In keeps what it was handed")
		}
		in.N(1)
		checkBad(t, in)
	}
}

func TestEndsAreNew(t *testing.T) {
	for _, size := range []int{0, 1, 2, 6, 7, 8, 9, 31, 32, 33, 500} {
		var o Out
		want := chance(rand.New(rand.NewSource(11)), size)
		o.Raw(want)
		for range 40 {
			first, _ := o.End()
			second, _ := o.End()
			fill(first)
			if !bytes.Equal(second, want) {
				t.Fatal("two answers share memory")
			}
			checkEnd(t, &o, want)
			o.N(5, 1)
			want = append(want, 5)
			checkEnd(t, &o, want)
			fill(second)
			checkEnd(t, &o, want)
		}
	}
}

func TestRawsAreNew(t *testing.T) {
	b := chance(rand.New(rand.NewSource(12)), 600)
	was := slices.Clone(b)
	for _, size := range []int{0, 1, 5, 8, 33, 150} {
		in := NewIn(b)
		first, second := in.Raw(size), in.Raw(size)
		fill(first)
		if !bytes.Equal(second, was[size:2*size]) {
			t.Fatal("two answers share memory")
		}
		fill(second)
		if got := in.Raw(600 - 2*size); !bytes.Equal(got, was[2*size:]) || !bytes.Equal(b, was) {
			t.Fatal("an answer shares memory with the In, or with what it is of")
		}
	}
}

// Each object has a history of its own, one that began as a copy of another too.
func TestObjectsAreByThemselves(t *testing.T) {
	for ahead := range 40 {
		var first, other Out
		want := []byte{}
		for i := range ahead {
			first.N(int64(i), 1)
			want = append(want, byte(i))
		}
		second := first
		first.N(0x0101, 2)
		second.Raw([]byte{2, 2, 2})
		third := second
		third.N(-1, 1)
		checkEnd(t, &first, append(slices.Clone(want), 1, 1))
		checkEnd(t, &second, append(slices.Clone(want), 2, 2, 2))
		checkSpoilt(t, &third)
		checkEnd(t, &other, nil)
	}
	first := NewIn([]byte{1, 2, 3})
	first.N(1)
	second, other := *first, NewIn([]byte{1, 2, 3})
	first.N(6)
	checkBad(t, first)
	checkState(t, &second, 2)
	checkState(t, other, 3)
	if v := second.N(2); v != 0x0203 {
		t.Error(v)
	}
}

// The calls stand as the chapter has them.
func TestKinds(t *testing.T) {
	var out interface {
		N(v int64, size int)
		Text(s string)
		Raw(b []byte)
		End() ([]byte, api.Errno)
	} = &Out{}
	out.Text("a")
	b, e := out.End()
	if e != api.OK || !bytes.Equal(b, []byte{1, 'a'}) {
		t.Error(b, e)
	}
	var begin func([]byte) *In = NewIn
	var in interface {
		N(size int) int64
		Text() string
		Raw(n int) []byte
		Left() int
		Bad() bool
		Done() bool
	} = begin(b)
	if in.Text() != "a" || !in.Done() || in.Left() != 0 || in.Bad() {
		t.Error(in.Left(), in.Bad())
	}
}
