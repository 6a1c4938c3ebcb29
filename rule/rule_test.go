package rule

import (
	"math"
	"strings"
	"testing"
)

func TestNameRight(t *testing.T) {
	for _, name := range []string{"a", "z", "0", "9", "_", "-", "...", "a.", ".a", "..a", "a..", "-.", "a/b", "a/old", "a/tmp/b",
		"a/b/c/d", "older", "oldtmp", "old.a", "ol/d", "tmp1", "tmp-/a", "a.gys/b", "gys", "agys", "a.gy", "a.gys.", "a.gyss",
		"a/.../b", "abcdefghijklmnopqrstuvwxyz0123456789._-/", strings.Repeat("a", 39), strings.Repeat("a", 40),
		strings.Repeat("a/", 19) + "ab"} {
		want := !strings.HasSuffix(name, "/")
		if Name(name) != want {
			t.Errorf("%q: %v", name, !want)
		}
	}
}

func TestNameWrong(t *testing.T) {
	for _, name := range []string{"", "/", "//", "/a", "a/", "a//b", ".", "..", "./a", "../a", "a/.", "a/..", "a/./b", "a/../b",
		"old", "tmp", "old/a", "tmp/a", "old/0/a", ".gys", "a.gys", "1.gys", "a/.gys", "a/b.gys", "A", "aB", "a b", " ", "a\\b",
		"a\x00", "é", "aé", "a\xff", "a:b", "a,b", "a@", "a`", "a{", "a+", "a^", "[", "a\n", strings.Repeat("a", 41),
		strings.Repeat("a/", 20) + "a", strings.Repeat("a", 300)} {
		if Name(name) {
			t.Errorf("%q: true", name)
		}
	}
}

// Of each byte alone, and beside a letter.
func TestNameBytes(t *testing.T) {
	const may = "abcdefghijklmnopqrstuvwxyz0123456789._-"
	for c := range 256 {
		b := string([]byte{byte(c)})
		if want := strings.Contains(may, b); Name(b+"a") != want || Name("a"+b) != want || Name(b) != (want && b != ".") {
			t.Errorf("byte %d", c)
		}
	}
}

func TestCount(t *testing.T) {
	for _, c := range []struct{ size, slice, want int }{{5, 2, 3}, {4, 2, 2}, {1, 2, 1}, {2, 2, 1}, {3, 2, 2}, {1, 1, 1}, {7, 1, 7},
		{255, 256, 1}, {256, 256, 1}, {257, 256, 2}, {512, 256, 2}, {16384, 256, 64}, {16385, 256, 65}, {math.MaxInt, 1, math.MaxInt},
		{math.MaxInt, 2, 1 << 62}, {math.MaxInt, 256, 1 << 55}, {0, 2, 0}, {-1, 2, 0}, {-5, 2, 0}, {math.MinInt, 2, 0}, {5, 0, 0},
		{5, -1, 0}, {5, -2, 0}, {5, 257, 0}, {5, 512, 0}, {5, math.MaxInt, 0}, {5, math.MinInt, 0}, {0, 0, 0}, {-5, -2, 0}} {
		if n := Count(c.size, c.slice); n != c.want {
			t.Errorf("Count(%d, %d): %d, not %d", c.size, c.slice, n, c.want)
		}
	}
	for slice := 1; slice <= 256; slice++ {
		n := 0
		for size := 1; size < 1100; size++ {
			if size > n*slice {
				n++
			}
			if Count(size, slice) != n {
				t.Fatalf("Count(%d, %d): not %d", size, slice, n)
			}
		}
	}
}
