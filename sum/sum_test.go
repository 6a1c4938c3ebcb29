package sum

import (
	"bytes"
	"crypto/sha256"
	"encoding/hex"
	"hash/crc32"
	"math"
	"math/rand"
	"strings"
	"testing"

	"geyser/api"
)

// plainCRC is P2.1 as it stands in the chapter, bit by bit.
func plainCRC(b []byte) uint32 {
	state := uint32(0xffffffff)
	for _, c := range b {
		state ^= uint32(c)
		for range 8 {
			odd := state & 1
			state /= 2
			if odd == 1 {
				state ^= 0xedb88320
			}
		}
	}
	return state ^ 0xffffffff
}

func chance(r *rand.Rand, size int) []byte {
	b := make([]byte, size)
	r.Read(b)
	return b
}

func TestCRCKnown(t *testing.T) {
	for _, c := range []struct {
		text string
		want uint32
	}{
		{"", 0},
		{"a", 0xe8b7be43},
		{"123456789", 0xcbf43926},
		{"\x00", 0xd202ef8d},
		{"\x00\x00", 0x41d912ff},
		{"\xff\xff\xff\xff", 0xffffffff},
		{"The quick brown fox jumps over the lazy dog", 0x414fa339},
	} {
		if got := CRC([]byte(c.text)); got != c.want {
			t.Errorf("%q: %08x, not %08x", c.text, got, c.want)
		}
	}
	if CRC(nil) != 0 || CRC([]byte{}) != 0 {
		t.Error("no bytes")
	}
}

func TestCRCOfEachByte(t *testing.T) {
	for c := range 256 {
		b := []byte{byte(c)}
		if CRC(b) != plainCRC(b) {
			t.Errorf("%d: %08x", c, CRC(b))
		}
	}
}

func TestCRCAtAllLengths(t *testing.T) {
	r := rand.New(rand.NewSource(1))
	for size := range 600 {
		b := chance(r, size)
		if got := CRC(b); got != plainCRC(b) || got != crc32.ChecksumIEEE(b) {
			t.Errorf("%d bytes: %08x", size, got)
		}
	}
}

func TestDigestKnown(t *testing.T) {
	for _, c := range []struct{ text, want string }{
		{"", "e3b0c44298fc1c149afbf4c8996fb92427ae41e4649b934ca495991b7852b855"},
		{"abc", "ba7816bf8f01cfea414140de5dae2223b00361a396177a9cb410ff61f20015ad"},
		{"abcdbcdecdefdefgefghfghighijhijkijkljklmklmnlmnomnopnopq", "248d6a61d20638b8e5c026930c3e6039a33ce45964ff2167f6ecedd419db06c1"},
		{strings.Repeat("a", 1000000), "cdc76e5c9914fb9281a1c7e284d73e67f1809a48a497200e046d39ccc7112cd0"},
	} {
		d := Digest([]byte(c.text))
		if got := hex.EncodeToString(d[:]); got != c.want {
			t.Errorf("%.20q: %s", c.text, got)
		}
	}
	if Digest(nil) != Digest([]byte{}) {
		t.Error("nil is no bytes")
	}
}

// Lengths up to some blocks have all the ways in which a message's end falls into its last block.
func TestDigestAtAllLengths(t *testing.T) {
	r := rand.New(rand.NewSource(2))
	for size := range 600 {
		b := chance(r, size)
		if Digest(b) != sha256.Sum256(b) {
			t.Errorf("%d bytes", size)
		}
	}
	for _, size := range []int{8191, 8192, 1<<16 - 1, 1 << 16, 1<<21 + 3} {
		b := chance(r, size)
		if Digest(b) != sha256.Sum256(b) {
			t.Errorf("%d bytes", size)
		}
	}
}

// What is handed in stays as it is, its spare room too.
func TestBytesAreLeft(t *testing.T) {
	r := rand.New(rand.NewSource(3))
	for _, size := range []int{0, 1, 55, 56, 63, 64, 65, 130} {
		room := chance(r, 300)
		was := bytes.Clone(room)
		CRC(room[:size])
		Digest(room[:size])
		if !bytes.Equal(room, was) {
			t.Errorf("%d bytes: changed", size)
		}
		if Digest(room[:size]) != Digest(was[:size:size]) || CRC(room[:size]) != CRC(was[:size:size]) {
			t.Errorf("%d bytes: hangs on the spare room", size)
		}
	}
}

func TestNewRollerSizes(t *testing.T) {
	for _, size := range []int{math.MinInt, -256, -1, 0, api.MaxSlice + 1, 2 * api.MaxSlice, math.MaxInt} {
		if NewRoller(size) != nil {
			t.Errorf("a roller of %d", size)
		}
	}
	for size := 1; size <= api.MaxSlice; size++ {
		if NewRoller(size) == nil {
			t.Errorf("no roller of %d", size)
		}
	}
}

func TestRollerOverBytes(t *testing.T) {
	r := rand.New(rand.NewSource(4))
	b := chance(r, 3*api.MaxSlice)
	for size := 1; size <= api.MaxSlice; size++ {
		roller := NewRoller(size)
		crc := CRC(b[:size])
		for at := 1; at+size <= len(b); at++ {
			crc = roller.Next(crc, b[at-1], b[at+size-1])
			if want := plainCRC(b[at : at+size]); crc != want {
				t.Fatalf("size %d at %d: %08x, not %08x", size, at, crc, want)
			}
		}
	}
}

func TestRollerOfEachPair(t *testing.T) {
	r := rand.New(rand.NewSource(5))
	for _, size := range []int{1, 2, 3, 4, 5, 64, 255, 256} {
		roller := NewRoller(size)
		b := chance(r, size+1)
		for pair := range 1 << 16 {
			b[0], b[size] = byte(pair>>8), byte(pair)
			if size > 8 && pair%37 != 0 {
				continue
			}
			if got := roller.Next(CRC(b[:size]), b[0], b[size]); got != CRC(b[1:]) {
				t.Fatalf("size %d, %02x out, %02x in: %08x", size, b[0], b[size], got)
			}
		}
	}
}

// Noughts, and bytes of all ones, are where a wrong beginning would not be seen, or be seen alone.
func TestRollerOverLikeBytes(t *testing.T) {
	for _, c := range []byte{0, 255} {
		for size := 1; size <= api.MaxSlice; size++ {
			b := bytes.Repeat([]byte{c}, size)
			crc := CRC(b)
			if got := NewRoller(size).Next(crc, c, c); got != crc {
				t.Errorf("%d times %d: %08x, not %08x", size, c, got, crc)
			}
		}
	}
}

// Next has no history: rollers serve many windows at once, and in any order.
func TestRollerKeepsNothing(t *testing.T) {
	r := rand.New(rand.NewSource(6))
	roller, other := NewRoller(16), NewRoller(17)
	for range 1000 {
		b := chance(r, 18)
		if roller.Next(CRC(b[:16]), b[0], b[16]) != CRC(b[1:17]) {
			t.Fatalf("%x", b)
		}
		if other.Next(CRC(b[:17]), b[0], b[17]) != CRC(b[1:]) {
			t.Fatalf("%x", b)
		}
		roller.Next(r.Uint32(), b[3], b[4])
	}
}

func TestNilAndZeroRollers(t *testing.T) {
	var none *Roller
	zero := &Roller{}
	for _, crc := range []uint32{0, 1, 0xcbf43926, 0xffffffff} {
		for c := range 256 {
			if none.Next(crc, byte(c), byte(255-c)) != 0 {
				t.Fatal("a nil roller answers zero")
			}
			zero.Next(crc, byte(c), byte(255-c))
		}
	}
}
