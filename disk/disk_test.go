package disk

import (
	"math"
	"slices"
	"strings"
	"testing"

	"geyser/api"
)

// fresh gives a disk with the files of names, safe and with these bytes.
func fresh(t *testing.T, capacity int, files ...string) *Disk {
	t.Helper()
	d, e := New(capacity)
	must(t, e)
	for _, f := range files {
		name, text, _ := strings.Cut(f, "=")
		must(t, d.Create(name), d.Append(name, []byte(text)), d.Sync(name))
	}
	must(t, d.Flush())
	return d
}

func must(t *testing.T, l ...api.Errno) {
	t.Helper()
	for i, e := range l {
		if e != api.OK {
			t.Fatalf("call %d: %v", i, e)
		}
	}
}

func want(t *testing.T, got, want api.Errno) {
	t.Helper()
	if got != want {
		t.Errorf("got %v, want %v", got, want)
	}
}

// content tells all of a disk in one text. It reads from a clone whose fuse and fault are gone.
func content(d *Disk) string {
	c := d.Clone()
	c.fault, c.lost = timer{}, false
	var l []string
	for _, name := range c.Names() {
		b, _ := c.Read(name)
		l = append(l, name+"="+string(b))
	}
	return strings.Join(l, " ")
}

func holds(t *testing.T, d *Disk, text string) {
	t.Helper()
	if got := content(d); got != text {
		t.Errorf("disk has %q, want %q", got, text)
	}
}

func TestNewBounds(t *testing.T) {
	for _, n := range []int{-1, math.MinInt, api.MaxDisk + 1, math.MaxInt} {
		if d, e := New(n); d != nil || e != api.ErrArg {
			t.Error(n, d, e)
		}
	}
	for _, n := range []int{0, 1, api.MaxDisk} {
		d, e := New(n)
		if e != api.OK || d.Room() != n || d.Waits() != 0 || len(d.Names()) != 0 || d.Lost() {
			t.Error(n, e)
		}
	}
}

func TestWholeCapacity(t *testing.T) {
	d := fresh(t, api.MaxDisk, "a=")
	must(t, d.Append("a", make([]byte, api.MaxDisk)), d.Append("a", nil))
	want(t, d.Append("a", []byte{1}), api.ErrFull)
	if d.Room() != 0 {
		t.Error(d.Room())
	}
}

func TestWhatIsAName(t *testing.T) {
	long := strings.Repeat("x", 60)
	for _, name := range []string{"!", "~", "a/b", long, "!~"} {
		d := fresh(t, 10, "q=1")
		want(t, d.Create(name), api.OK)
		want(t, d.Remove(name), api.OK)
		want(t, d.Rename("q", name), api.OK)
	}
	for _, name := range []string{"", long + "x", " ", "a b", "\x7f", "\x00", "a\n", "é", "a\xff", "\x80"} {
		d := fresh(t, 10, "q=1")
		want(t, d.Create(name), api.ErrArg)
		want(t, d.Rename("q", name), api.ErrArg)
		want(t, d.Append(name, nil), api.ErrNone)
		want(t, d.Rename(name, "r"), api.ErrNone)
		want(t, d.Remove(name), api.ErrNone)
		want(t, d.Sync(name), api.ErrNone)
		if b, e := d.Read(name); e != api.ErrNone || b != nil {
			t.Error(name, b, e)
		}
		holds(t, d, "q=1")
	}
}

func TestErrorsAndTheirOrder(t *testing.T) {
	d := fresh(t, 5, "a=abc", "b=d")
	want(t, d.Create("a"), api.ErrTwice)
	want(t, d.Append("z", make([]byte, 9)), api.ErrNone)
	want(t, d.Append("a", make([]byte, 2)), api.ErrFull)
	want(t, d.Rename("z", ""), api.ErrArg)
	want(t, d.Rename("z", "z"), api.ErrArg)
	want(t, d.Rename("a", "a"), api.ErrArg)
	want(t, d.Rename("z", "a"), api.ErrNone)
	want(t, d.Fuse(-1), api.ErrArg)
	want(t, d.Fuse(math.MinInt), api.ErrArg)
	want(t, d.Fault(-1), api.ErrArg)
	want(t, d.Fault(math.MinInt), api.ErrArg)
	if d.Waits() != 0 || d.Room() != 1 {
		t.Error(d.Waits(), d.Room())
	}
	holds(t, d, "a=abc b=d")
}

func TestNamesRise(t *testing.T) {
	d := fresh(t, 10)
	for _, name := range []string{"b", "a", "B", "a/b", "a!", "~", "10", "9"} {
		must(t, d.Create(name))
	}
	if l := d.Names(); !slices.Equal(l, []string{"10", "9", "B", "a", "a!", "a/b", "b", "~"}) {
		t.Error(l)
	}
}

func TestRoomIsOfNamedFiles(t *testing.T) {
	d := fresh(t, 10, "a=abc", "b=de")
	if d.Room() != 5 {
		t.Error(d.Room())
	}
	must(t, d.Rename("a", "c"))
	if d.Room() != 5 {
		t.Error(d.Room())
	}
	must(t, d.Rename("c", "b"))
	if d.Room() != 7 {
		t.Error(d.Room())
	}
	holds(t, d, "b=abc")
	must(t, d.Remove("b"))
	if d.Room() != 10 || len(d.Names()) != 0 {
		t.Error(d.Room())
	}
}

func TestRoomBelowNought(t *testing.T) {
	d := fresh(t, 4, "a=abcd")
	must(t, d.Remove("a"), d.Create("b"), d.Flush())
	must(t, d.Append("b", []byte("xyz")), d.Sync("b"))
	must(t, d.Rename("b", "c"), d.Create("n"), d.Append("n", []byte("w")), d.Sync("n"))
	d.Restart(-1, nil)
	if d.Room() != 0 {
		t.Error(d.Room())
	}
	must(t, d.Remove("c"), d.Append("n", []byte("123")), d.Sync("n"))
	d.Restart(0, nil)
	if d.Room() != -3 {
		t.Fatal(d.Room())
	}
	holds(t, d, "c=xyz n=w123")
	want(t, d.Append("n", nil), api.ErrFull)
	want(t, d.Append("z", nil), api.ErrNone)
	want(t, d.Create("e"), api.OK)
	want(t, d.Append("e", nil), api.ErrFull)
	must(t, d.Remove("c"), d.Append("n", nil))
	if d.Room() != 0 {
		t.Error(d.Room())
	}
}

func TestWaitsAreChangesOfNames(t *testing.T) {
	d := fresh(t, 10, "a=a", "b=b")
	for i, call := range []func() api.Errno{
		func() api.Errno { return d.Create("c") },
		func() api.Errno { return d.Rename("a", "b") },
		func() api.Errno { return d.Remove("b") },
	} {
		must(t, call(), d.Append("c", []byte("x")), d.Sync("c"))
		if d.Waits() != i+1 {
			t.Error(i, d.Waits())
		}
	}
	must(t, d.Flush())
	if d.Waits() != 0 {
		t.Error(d.Waits())
	}
	d.Restart(0, nil)
	holds(t, d, "c=xxx")
}

func TestSyncIsOfBytesFlushOfNames(t *testing.T) {
	d := fresh(t, 10)
	must(t, d.Create("a"), d.Append("a", []byte("ab")), d.Sync("a"))
	x := d.Clone()
	x.Restart(0, nil)
	holds(t, x, "")
	must(t, d.Flush())
	x = d.Clone()
	x.Restart(0, nil)
	holds(t, x, "a=ab")
	must(t, d.Append("a", []byte("cd")), d.Flush())
	d.Restart(0, nil)
	holds(t, d, "a=ab")
}

func TestRestartOfNames(t *testing.T) {
	d := fresh(t, 20, "a=1", "b=22")
	must(t, d.Rename("a", "b"), d.Create("a"), d.Remove("b"), d.Rename("a", "z"))
	states := []string{"a=1 b=22", "b=1", "a= b=1", "a=", "z="}
	for _, n := range []int{0, 1, 2, 3, 4, 5, 9, 10, -1, -2, -5, -6, math.MaxInt, math.MinInt} {
		i := (n%5 + 5) % 5
		x := d.Clone()
		x.Restart(n, nil)
		holds(t, x, states[i])
		if x.Waits() != 0 {
			t.Error(n, x.Waits())
		}
		// What stayed is safe now, and what did not stay has not been.
		x.Restart(0, nil)
		holds(t, x, states[i])
	}
}

func TestRestartOfBytes(t *testing.T) {
	d := fresh(t, 40, "c=3", "a=1", "d=4", "b=2", "e=5")
	must(t, d.Append("c", []byte("xyz")), d.Append("a", []byte("vw")), d.Append("d", nil), d.Append("e", []byte("q")))
	for _, c := range []struct {
		keep []int
		text string
	}{
		{nil, "a=1 b=2 c=3 d=4 e=5"},
		{[]int{}, "a=1 b=2 c=3 d=4 e=5"},
		{[]int{1}, "a=1v b=2 c=3x d=4 e=5q"},
		{[]int{2}, "a=1vw b=2 c=3xy d=4 e=5"},
		{[]int{0, 3}, "a=1 b=2 c=3xyz d=4 e=5"},
		{[]int{1, 2}, "a=1v b=2 c=3xy d=4 e=5q"},
		{[]int{3, 4, 3, 9, 9}, "a=1 b=2 c=3 d=4 e=5q"},
		{[]int{-1}, "a=1vw b=2 c=3xyz d=4 e=5q"},
		{[]int{-2, -4, -2}, "a=1v b=2 c=3 d=4 e=5"},
		{[]int{math.MinInt}, "a=1v b=2 c=3 d=4 e=5"},
	} {
		x := d.Clone()
		x.Restart(0, c.keep)
		holds(t, x, c.text)
		if used := len(strings.ReplaceAll(c.text, " ", "")) - 2*5; x.Room() != 40-used {
			t.Error(c.keep, x.Room())
		}
		x.Restart(0, nil)
		holds(t, x, c.text)
	}
}

func TestRestartCountsFilesByTheNamesThatStay(t *testing.T) {
	d := fresh(t, 40, "a=", "b=")
	must(t, d.Append("a", []byte("123")), d.Append("b", []byte("456")), d.Rename("a", "c"))
	x := d.Clone()
	x.Restart(1, []int{1, 2})
	holds(t, x, "b=4 c=12")
	d.Restart(0, []int{1, 2})
	holds(t, d, "a=1 b=45")
}

func TestRestartBringsBytesBack(t *testing.T) {
	d := fresh(t, 40, "a=old")
	must(t, d.Append("a", []byte("er")), d.Create("b"), d.Append("b", []byte("new")), d.Rename("b", "a"))
	must(t, d.Append("a", []byte("est")), d.Remove("a"), d.Create("a"))
	x := d.Clone()
	x.Restart(0, []int{-1})
	holds(t, x, "a=older")
	x = d.Clone()
	x.Restart(1, []int{-1})
	holds(t, x, "a=older b=newest")
	x = d.Clone()
	x.Restart(2, []int{4})
	holds(t, x, "a=newe")
	x = d.Clone()
	x.Restart(4, []int{-1})
	holds(t, x, "a=")
}

// changes are all kinds of changes, each of which can be made on fresh(a=abc, b=de).
func changes() []func(d *Disk) api.Errno {
	return []func(d *Disk) api.Errno{
		func(d *Disk) api.Errno { return d.Create("c") },
		func(d *Disk) api.Errno { return d.Append("a", []byte("12345")) },
		func(d *Disk) api.Errno { return d.Rename("a", "b") },
		func(d *Disk) api.Errno { return d.Remove("a") },
		func(d *Disk) api.Errno { return d.Sync("a") },
		func(d *Disk) api.Errno { return d.Flush() },
	}
}

func TestFuseAtEachChange(t *testing.T) {
	for i, change := range changes() {
		d := fresh(t, 20, "a=abc", "b=de")
		must(t, d.Create("w"), d.Append("a", []byte("X")), d.Fuse(0))
		if d.Lost() {
			t.Error(i, "too early")
		}
		want(t, change(d), api.ErrLost)
		text, room := "a=abcX b=de w=", 14
		if i == 1 {
			text, room = "a=abcX12 b=de w=", 12
		}
		holds(t, d, text)
		if !d.Lost() || d.Waits() != 1 || d.Room() != room {
			t.Error(i, d.Lost(), d.Waits(), d.Room())
		}
		x := d.Clone()
		x.Restart(0, nil)
		holds(t, x, "a=abc b=de")
		d.Restart(1, []int{-1})
		holds(t, d, text)
	}
}

func TestFuseOfShortAppends(t *testing.T) {
	for n, half := range []int{0, 0, 1, 1, 2} {
		d := fresh(t, 20, "a=")
		must(t, d.Fuse(0))
		want(t, d.Append("a", []byte("1234"[:n])), api.ErrLost)
		holds(t, d, "a="+"1234"[:half])
	}
}

func TestFuseCountsChanges(t *testing.T) {
	for n := range 6 {
		d := fresh(t, 20, "a=abc", "b=de")
		must(t, d.Fuse(n))
		for i, change := range []func() api.Errno{
			func() api.Errno { return d.Create("c") },
			func() api.Errno { return d.Append("c", nil) },
			func() api.Errno { return d.Rename("a", "b") },
			func() api.Errno { return d.Remove("b") },
			func() api.Errno { return d.Sync("c") },
			func() api.Errno { return d.Flush() },
		} {
			askWrongly(t, d)
			if i < n {
				want(t, change(), api.OK)
				continue
			}
			want(t, change(), api.ErrLost)
			break
		}
		if !d.Lost() {
			t.Error(n, "not lost")
		}
	}
}

// askWrongly makes calls that count neither for a fuse nor for a fault.
func askWrongly(t *testing.T, d *Disk) {
	t.Helper()
	want(t, d.Create(""), api.ErrArg)
	want(t, d.Create(d.Names()[0]), api.ErrTwice)
	want(t, d.Append("none", nil), api.ErrNone)
	want(t, d.Append(d.Names()[0], make([]byte, 100)), api.ErrFull)
	want(t, d.Rename("a", ""), api.ErrArg)
	want(t, d.Rename("none", "x"), api.ErrNone)
	want(t, d.Remove("none"), api.ErrNone)
	want(t, d.Sync("none"), api.ErrNone)
	want(t, d.Fuse(-1), api.ErrArg)
	want(t, d.Fault(-1), api.ErrArg)
	if _, e := d.Read("none"); e != api.ErrNone {
		t.Error(e)
	}
}

func TestReadBurnsNoFuse(t *testing.T) {
	d := fresh(t, 20, "a=abc")
	must(t, d.Fuse(1))
	for range 5 {
		if b, e := d.Read("a"); e != api.OK || string(b) != "abc" {
			t.Fatal(e)
		}
	}
	want(t, d.Flush(), api.OK)
	want(t, d.Flush(), api.ErrLost)
}

func TestLostAnswersAll(t *testing.T) {
	d := fresh(t, 20, "a=abc")
	must(t, d.Fuse(0))
	want(t, d.Flush(), api.ErrLost)
	for _, e := range []api.Errno{d.Create("c"), d.Create(""), d.Append("a", nil), d.Append("z", nil), d.Rename("a", "b"), d.Rename("a", ""), d.Remove("a"), d.Remove("z"), d.Sync("a"), d.Flush(), d.Fuse(0), d.Fuse(-1), d.Fault(0), d.Fault(-1)} {
		want(t, e, api.ErrLost)
	}
	if b, e := d.Read("a"); b != nil || e != api.ErrLost {
		t.Error(b, e)
	}
	if !slices.Equal(d.Names(), []string{"a"}) || d.Room() != 17 || !d.Lost() {
		t.Error(d.Names(), d.Room(), d.Lost())
	}
	d.Restart(0, nil)
	if d.Lost() {
		t.Error("still lost")
	}
	want(t, d.Append("a", []byte("d")), api.OK)
	holds(t, d, "a=abcd")
}

func TestFaultAtEachCall(t *testing.T) {
	for i, change := range changes() {
		d := fresh(t, 20, "a=abc", "b=de")
		must(t, d.Append("a", []byte("X")), d.Create("w"), d.Fault(0))
		want(t, change(d), api.ErrIO)
		holds(t, d, "a=abcX b=de w=")
		if d.Lost() || d.Waits() != 1 || d.Room() != 14 {
			t.Error(i, d.Lost(), d.Waits(), d.Room())
		}
		x := d.Clone()
		x.Restart(0, nil)
		holds(t, x, "a=abc b=de")
		want(t, change(d), api.OK)
	}
	d := fresh(t, 20, "a=abc")
	must(t, d.Fault(0))
	if b, e := d.Read("a"); b != nil || e != api.ErrIO {
		t.Error(b, e)
	}
	if b, e := d.Read("a"); string(b) != "abc" || e != api.OK {
		t.Error(b, e)
	}
}

func TestFaultCountsChangesAndReads(t *testing.T) {
	d := fresh(t, 20, "a=abc")
	must(t, d.Fault(2))
	askWrongly(t, d)
	want(t, d.Sync("a"), api.OK)
	askWrongly(t, d)
	if _, e := d.Read("a"); e != api.OK {
		t.Error(e)
	}
	askWrongly(t, d)
	want(t, d.Flush(), api.ErrIO)
	for range 5 {
		want(t, d.Flush(), api.OK)
	}
}

func TestFaultComesAheadOfFuse(t *testing.T) {
	d := fresh(t, 20, "a=abc")
	must(t, d.Fuse(0), d.Fault(0))
	want(t, d.Append("a", []byte("xy")), api.ErrIO)
	holds(t, d, "a=abc")
	want(t, d.Append("a", []byte("xy")), api.ErrLost)
	holds(t, d, "a=abcx")
	d.Restart(0, nil)
	must(t, d.Fuse(1), d.Fault(0))
	want(t, d.Flush(), api.ErrIO)
	want(t, d.Flush(), api.OK)
	want(t, d.Flush(), api.ErrLost)
}

func TestFuseAndFaultAreSetAnew(t *testing.T) {
	d := fresh(t, 20, "a=abc")
	must(t, d.Fuse(0), d.Fuse(math.MaxInt), d.Fault(0), d.Fault(1), d.Flush())
	want(t, d.Fuse(-1), api.ErrArg)
	want(t, d.Flush(), api.ErrIO)
	must(t, d.Flush(), d.Flush())
}

func TestRestartTakesFuseAndFaultAway(t *testing.T) {
	d := fresh(t, 20, "a=abc")
	must(t, d.Fuse(0), d.Fault(0))
	d.Restart(0, nil)
	must(t, d.Flush(), d.Flush(), d.Sync("a"))
	if d.Lost() {
		t.Error("lost")
	}
}

func TestCloneIsByItself(t *testing.T) {
	d := fresh(t, 30, "a=abc", "b=de")
	must(t, d.Append("a", []byte("X")), d.Rename("a", "c"), d.Create("n"), d.Append("n", []byte("new")))
	c := d.Clone()
	holds(t, c, content(d))
	if c.Waits() != 2 || c.Room() != d.Room() {
		t.Error(c.Waits(), c.Room())
	}
	must(t, c.Append("c", []byte("Y")), c.Append("n", []byte("Z")), c.Append("b", []byte("W")), c.Remove("b"), c.Sync("n"))
	holds(t, d, "b=de c=abcX n=new")
	must(t, d.Append("c", []byte("1")), d.Append("n", []byte("2")), d.Create("o"))
	holds(t, d, "b=de c=abcX1 n=new2 o=")
	holds(t, c, "c=abcXY n=newZ")
	c.Restart(-1, nil)
	holds(t, c, "c=abc n=newZ")
	d.Restart(-1, nil)
	holds(t, d, "b=de c=abc n= o=")
}

func TestCloneHasFuseFaultAndLoss(t *testing.T) {
	d := fresh(t, 30, "a=abc")
	must(t, d.Fuse(1), d.Fault(1))
	c := d.Clone()
	d.Restart(0, nil)
	must(t, c.Flush())
	want(t, c.Flush(), api.ErrIO)
	want(t, c.Flush(), api.ErrLost)
	x := c.Clone()
	if !x.Lost() || d.Lost() {
		t.Error(x.Lost(), d.Lost())
	}
	want(t, x.Flush(), api.ErrLost)
	must(t, d.Flush(), d.Flush(), d.Flush())
}

func TestNilAndZeroDisks(t *testing.T) {
	var d *Disk
	for _, e := range []api.Errno{d.Create("a"), d.Append("a", nil), d.Rename("a", "b"), d.Remove("a"), d.Sync("a"), d.Flush(), d.Fuse(0), d.Fault(0)} {
		want(t, e, api.ErrArg)
	}
	if b, e := d.Read("a"); b != nil || e != api.ErrArg {
		t.Error(b, e)
	}
	d.Restart(1, []int{1})
	if len(d.Names()) != 0 || d.Room() != 0 || d.Waits() != 0 || d.Lost() || d.Clone() != nil {
		t.Error("nil")
	}
	z := &Disk{}
	z.Restart(math.MinInt, []int{math.MinInt})
	z = z.Clone()
	must(t, z.Flush(), z.Create("a"), z.Append("a", nil), z.Rename("a", "b"), z.Sync("b"))
	want(t, z.Append("b", []byte{1}), api.ErrFull)
	must(t, new(Disk).Create("a"))
	holds(t, z, "b=")
}

func TestMemoryIsNotShared(t *testing.T) {
	d := fresh(t, 100, "a=abc")
	room := []byte("defghi")
	must(t, d.Append("a", room[:3]), d.Append("a", []byte("!")))
	if string(room) != "defghi" {
		t.Error(string(room))
	}
	copy(room, "000000")
	holds(t, d, "a=abcdef!")
	b, _ := d.Read("a")
	for i := range b {
		b[i] = '?'
	}
	_ = append(b, "more"...)
	l := d.Names()
	l[0] = "q"
	holds(t, d, "a=abcdef!")
	must(t, d.Append("a", []byte("xyz")))
	if c, _ := d.Read("a"); string(b) != "???????" || string(c) != "abcdef!xyz" {
		t.Error(string(b), string(c))
	}
	keep := []int{7, -7}
	d.Restart(7, keep)
	if !slices.Equal(keep, []int{7, -7}) {
		t.Error(keep)
	}
}
