package path

import (
	"math"
	"math/rand"
	"regexp"
	"slices"
	"strconv"
	"strings"
	"testing"
	"unsafe"

	"geyser/disk"
)

// Patterns of the names, written apart from the program.
var (
	bytesOf   = regexp.MustCompile(`\A[-a-z0-9._/]{1,40}\z`)
	badPart   = regexp.MustCompile(`(\A|/)\.{0,2}(/|\z)`)
	badFirst  = regexp.MustCompile(`\A(old|tmp)(/|\z)`)
	badEnding = regexp.MustCompile(`\.gys\z`)
	ofVolume  = regexp.MustCompile(`\A(0|[1-9][0-9]{0,2})\.gys\z`)
)

func plainRight(name string) bool {
	return bytesOf.MatchString(name) && !badPart.MatchString(name) && !badFirst.MatchString(name) && !badEnding.MatchString(name)
}

func plainNumber(name string) int {
	if !ofVolume.MatchString(name) {
		return -1
	}
	n, err := strconv.Atoi(name[:len(name)-4])
	if err != nil {
		panic(err)
	}
	return n
}

// noNumbers are below 0 or above 999.
var noNumbers = []int{-1, -2, -9, -10, -999, -1000, 1000, 1001, 1999, 9999, 10000, 1 << 16, 1 << 32, 1<<32 + 1, 1<<16 + 5, -1 << 32,
	math.MaxInt, math.MaxInt - 1, math.MinInt, math.MinInt + 1, math.MaxInt32, math.MinInt32}

// join makes all texts of so many of the pieces, with these between them.
func join(pieces []string, between string, count int) []string {
	if count == 0 {
		return []string{""}
	}
	l := pieces
	for range count - 1 {
		var longer []string
		for _, a := range l {
			for _, b := range pieces {
				longer = append(longer, a+between+b)
			}
		}
		l = longer
	}
	return l
}

func checkRight(t *testing.T, name string, want bool) {
	t.Helper()
	if Right(name) != want {
		t.Errorf("Right(%q): %v", name, !want)
	}
}

func TestExample(t *testing.T) { checkRight(t, "../a", false) }

func TestRight(t *testing.T) {
	for _, name := range []string{"a", "z", "m", "0", "9", "_", "-", "--", "a.b", ".a", "a.", "...", "....", "..a", "a..", ".-", "._",
		"a/b", "a/b/c/d/e", "a/...", ".../a", "a/..b", "a/b..", "a/.b", "-/-", "_/_", "old.", "old-", "oldtmp", "olda", "ol", "ld",
		"tmp.", "tmp0", "tm", "xtmp", "xold", ".old", ".tmp", "tmpold/a", "old1/a", "a/old", "a/tmp", "a/old/b", "a/tmp/b", "to/old/tmp",
		"gys", "agys", "a-gys", "a.gy", "a.gys.", "a.gys-", "a.gysa", "a.gys/b", "1.gys/b", ".gys/b", "a.gys.gyt", "a.ys", "a.gs",
		"abcdefghijklmnopqrstuvwxyz", "0123456789._-", strings.Repeat("a", 39), strings.Repeat("a", 40), strings.Repeat(".", 40),
		strings.Repeat("a/", 19) + "a", strings.Repeat("a/", 19) + "aa", strings.Repeat("a", 36) + ".gyt"} {
		checkRight(t, name, true)
	}
}

func TestNotRight(t *testing.T) {
	for _, name := range []string{"", "/", "//", "///", "/a", "a/", "/a/", "a//b", "a/b//", "a///b", ".", "..", "./", "../", "./a",
		"../a", "a/.", "a/..", "a/./b", "a/../b", "a/../../b", "../..", "./.", "a/b/..", "old", "tmp", "old/", "tmp/", "old/a", "tmp/a",
		"old/0/a", "tmp/0", "old/old", "tmp/old", "old/..", ".gys", "a.gys", "0.gys", "999.gys", "1000.gys", "a/.gys", "a/b.gys",
		"old.gys", "a.gys.gys", "..gys", "...gys", "a/0.gys", "A", "Z", "aB", "Old", "a b", " ", " a", "a ", "a\\b", "\\", "a\x00",
		"\x00", "a\n", "a\r\n", "\ta", "a:b", "a+b", "a,b", "a@b", "a`", "a{", "a~", "a*", "a?", "a\x7f", "a\x80", "\xff", "é", "ä",
		"aé", "a/é", "ａ", "a∕b", "世", "\xc3", "A.GYS", strings.Repeat("a", 41), strings.Repeat("a", 42), strings.Repeat("a", 80),
		strings.Repeat("a", 256+40), strings.Repeat("a/", 20) + "a", strings.Repeat("a/", 20), strings.Repeat("a", 36) + ".gys",
		strings.Repeat("a", 37) + ".gys", strings.Repeat("é", 20), strings.Repeat("/", 40), strings.Repeat("../", 13) + "a"} {
		checkRight(t, name, false)
	}
}

// Of each byte alone, ahead of a letter, behind one, and between two.
func TestRightOfEachByte(t *testing.T) {
	for c := range 256 {
		b := string([]byte{byte(c)})
		for _, name := range []string{b, b + "a", "a" + b, "a" + b + "a", "a/" + b + "a", "a" + b + "/a"} {
			checkRight(t, name, plainRight(name))
		}
	}
}

func TestRightOfEachLength(t *testing.T) {
	for size := range 1000 {
		checkRight(t, strings.Repeat("a", size), size >= 1 && size <= 40)
		checkRight(t, strings.Repeat("/a", size/2)+"/b", false)
		if size > 2 {
			checkRight(t, strings.Repeat("a", size-2)+"/b", size <= 40)
		}
	}
	checkRight(t, strings.Repeat("a", 1<<24), false)
	checkRight(t, strings.Repeat("/", 1<<24), false)
}

// Of all short names made of what the promise speaks of.
func TestRightOfAllShort(t *testing.T) {
	letters := strings.Split("a.-/oldgys", "")
	for count := range 6 {
		for _, name := range join(letters, "", count) {
			checkRight(t, name, plainRight(name))
		}
	}
	parts := []string{"", ".", "..", "...", "old", "tmp", "old.", "tmp-", ".gys", "a.gys", "0.gys", "a", "A", "é"}
	for count := 1; count < 5; count++ {
		for _, name := range join(parts, "/", count) {
			checkRight(t, name, plainRight(name))
		}
	}
}

func TestRightByChance(t *testing.T) {
	r := rand.New(rand.NewSource(15))
	pieces := []string{"a", "b", "z", "0", "9", ".", "_", "-", "/", "old", "tmp", ".gys", "/a", "a/", "b-c", "x.y", "A", " ", "é"}
	right := 0
	for range 200000 {
		var name string
		for range 1 + r.Intn(24) {
			name += pieces[min(r.Intn(len(pieces)), r.Intn(len(pieces)))]
		}
		if plainRight(name) {
			right++
		}
		checkRight(t, name, plainRight(name))
	}
	if right < 1000 {
		t.Errorf("%d right names alone", right)
	}
}

func TestNumberedKnown(t *testing.T) {
	for _, c := range []struct {
		n                    int
		volume, aside, fresh string
	}{{0, "0.gys", "old/0/a/b", "tmp/0"}, {1, "1.gys", "old/1/a/b", "tmp/1"}, {9, "9.gys", "old/9/a/b", "tmp/9"},
		{10, "10.gys", "old/10/a/b", "tmp/10"}, {99, "99.gys", "old/99/a/b", "tmp/99"}, {100, "100.gys", "old/100/a/b", "tmp/100"},
		{307, "307.gys", "old/307/a/b", "tmp/307"}, {998, "998.gys", "old/998/a/b", "tmp/998"},
		{999, "999.gys", "old/999/a/b", "tmp/999"}} {
		if name := Volume(c.n); name != c.volume {
			t.Errorf("Volume(%d): %q", c.n, name)
		}
		if n := Number(c.volume); n != c.n {
			t.Errorf("Number(%q): %d", c.volume, n)
		}
		if name := Aside("a/b", c.n); name != c.aside {
			t.Errorf("Aside(%d): %q", c.n, name)
		}
		if name := Fresh(c.n); name != c.fresh {
			t.Errorf("Fresh(%d): %q", c.n, name)
		}
	}
}

func TestEachNumber(t *testing.T) {
	for n := range 1000 {
		digits := strconv.FormatInt(int64(n), 10)
		if name := Volume(n); name != digits+".gys" || Number(name) != n {
			t.Errorf("Volume(%d): %q, and back %d", n, name, Number(name))
		}
		if name := Fresh(n); name != "tmp/"+digits {
			t.Errorf("Fresh(%d): %q", n, name)
		}
		if name := Aside("x", n); name != "old/"+digits+"/x" {
			t.Errorf("Aside(%d): %q", n, name)
		}
	}
}

func TestNoNumbers(t *testing.T) {
	l := slices.Clone(noNumbers)
	for n := 1000; n < 3000; n++ {
		l = append(l, n, -n, 999-n)
	}
	for _, n := range l {
		if name := Volume(n); name != "" {
			t.Errorf("Volume(%d): %q", n, name)
		}
		if name := Fresh(n); name != "" {
			t.Errorf("Fresh(%d): %q", n, name)
		}
		for _, of := range []string{"a", "", "a/b", "../a"} {
			if name := Aside(of, n); name != "" {
				t.Errorf("Aside(%q, %d): %q", of, n, name)
			}
		}
	}
}

func TestNoVolumes(t *testing.T) {
	for _, name := range []string{"", ".gys", "gys", "0", "12", "0gys", "0.", "0.gy", "0.gys.", "0.gys ", " 0.gys", "0 .gys", "0.gys\n",
		"\n0.gys", "0.gys\x00", "0..gys", "0.0.gys", "0.gys.gys", "0.GYS", "0.Gys", "00.gys", "01.gys", "007.gys", "000.gys", "0000.gys",
		"0999.gys", "099.gys", "1000.gys", "1001.gys", "9999.gys", "10000.gys", "+0.gys", "+1.gys", "-0.gys", "-1.gys", "-999.gys",
		"--1.gys", "1e2.gys", "0x1.gys", "0b1.gys", "0o7.gys", "1_0.gys", "_1.gys", "1,0.gys", "1.5.gys", "a.gys", "1a.gys", "a1.gys",
		"/0.gys", "a/0.gys", "./0.gys", "old/0/0.gys", "0/.gys", "0.gys/", "0.gys/0", "0.gys/0.gys", "٣.gys", "１.gys", "².gys",
		"4294967296.gys", "4294967297.gys", "18446744073709551616.gys", "18446744073709551617.gys", "-18446744073709551615.gys",
		"9223372036854775807.gys", "9223372036854775808.gys", "-9223372036854775808.gys", "65536.gys", "1024.gys",
		strings.Repeat("0", 100) + "1.gys", strings.Repeat("9", 100) + ".gys", strings.Repeat("1", 1<<24) + ".gys",
		strings.Repeat("0", 1<<24) + ".gys", strings.Repeat("x", 1<<24)} {
		if n := Number(name); n != -1 {
			t.Errorf("Number(%.30q): %d", name, n)
		}
	}
}

// Of all short names made of digits and what stands ahead of and behind them.
func TestNumberOfAllShort(t *testing.T) {
	letters := strings.Split("0159-+_. gys", "")
	for count := range 6 {
		for _, name := range join(letters, "", count) {
			for _, full := range []string{name, name + ".gys"} {
				if n := Number(full); n != plainNumber(full) {
					t.Errorf("Number(%q): %d", full, n)
				}
			}
		}
	}
}

// Each byte of each volume's name another one, missing, or twice.
func TestNumberOfEachByteAnother(t *testing.T) {
	for _, n := range []int{0, 5, 10, 19, 100, 345, 999} {
		name := Volume(n)
		for i := range name {
			for _, full := range []string{name[:i], name[i:], name[:i] + name[i+1:], name[:i] + name[i:i+1] + name[i:]} {
				if n := Number(full); n != plainNumber(full) {
					t.Errorf("Number(%q): %d", full, n)
				}
			}
			for c := range 256 {
				full := name[:i] + string([]byte{byte(c)}) + name[i+1:]
				if n := Number(full); n != plainNumber(full) {
					t.Errorf("Number(%q): %d", full, n)
				}
			}
		}
	}
}

// What a name is isn't asked where it is put aside.
func TestAsideOfAnyName(t *testing.T) {
	for _, name := range []string{"a", "", "/", "..", "../a", "a//b", "old", "old/0/a", "tmp/0", "0.gys", "A b", "é", "\x00\xff", "%d",
		strings.Repeat("a", 40), strings.Repeat("a", 41), strings.Repeat("é/", 1000)} {
		if got := Aside(name, 12); got != "old/12/"+name {
			t.Errorf("Aside(%q): %q", name, got)
		}
	}
}

// What the program names is no protected file's name, and no other one's; a disk may have it.
func TestNamesApart(t *testing.T) {
	d, _ := disk.New(0)
	longest := strings.Repeat("a", 40)
	for n := range 1000 {
		for _, name := range []string{Volume(n), Aside("a", n), Aside(longest, n), Aside("a.b/c", n), Fresh(n)} {
			if Right(name) {
				t.Errorf("%q is right", name)
			}
			if e := d.Create(name); e != 0 {
				t.Errorf("%q: %d", name, e)
			}
			if name != Volume(n) && Number(name) != -1 {
				t.Errorf("%q is a volume's", name)
			}
		}
	}
}

// What is answered is new memory.
func TestMemory(t *testing.T) {
	whole := []byte("old/3/name")
	name := unsafe.String(&whole[6], 4)
	got := Aside(name, 3)
	copy(whole, "xxxxxxxxxx")
	if got != "old/3/name" {
		t.Errorf("%q", got)
	}
}

// Nothing is kept from call to call.
func TestCallsAreByThemselves(t *testing.T) {
	for range 3 {
		for _, n := range []int{5, 1000, 0, -1, 999} {
			right := n >= 0 && n <= 999
			if (Volume(n) != "") != right || (Fresh(n) != "") != right || (Aside("a", n) != "") != right {
				t.Errorf("%d", n)
			}
		}
		checkRight(t, "a", true)
		checkRight(t, "a/", false)
		if Number("7.gys") != 7 || Number("7.gy") != -1 {
			t.Error("Number")
		}
	}
}
