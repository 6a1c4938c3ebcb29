package disk

import (
	"maps"
	"slices"

	"geyser/api"
)

// file is what a name means; its first safe bytes survive whatever comes.
type file struct {
	bytes []byte
	safe  int
}

func (f *file) clone() *file {
	return &file{bytes: slices.Clone(f.bytes), safe: f.safe}
}

// table says which file each name means; no file has two names.
type table map[string]*file

func (t table) sorted() []string {
	return slices.Sorted(maps.Keys(t))
}

func (t table) clone() table {
	c := make(table, len(t))
	for name, f := range t {
		c[name] = f.clone()
	}
	return c
}

func (t table) size(name string) int {
	if f := t[name]; f != nil {
		return len(f.bytes)
	}
	return 0
}

// change is a change of names: made is the file of a Create, which has no
// from; a Remove has no to.
type change struct {
	made     *file
	from, to string
}

func (c change) apply(t table) {
	f := c.made
	if f == nil {
		f = t[c.from]
		delete(t, c.from)
	}
	if c.to != "" {
		t[c.to] = f
	}
}

// timer is a fuse or a fault: what it is set for is due behind the next left.
type timer struct {
	set  bool
	left int
}

func (t *timer) due() bool {
	if !t.set {
		return false
	}
	if t.left > 0 {
		t.left--
		return false
	}
	t.set = false
	return true
}

// power is what every call that answers an Errno asks first.
func (d *Disk) power() api.Errno {
	if d == nil {
		return api.ErrArg
	}
	if d.lost {
		return api.ErrLost
	}
	return api.OK
}

// pass is what every change asks last: the fault comes ahead of the fuse, so
// that a change that fails doesn't burn the fuse.
func (d *Disk) pass() api.Errno {
	if d.fault.due() {
		return api.ErrIO
	}
	if d.fuse.due() {
		d.lost = true
		return api.ErrLost
	}
	return api.OK
}

// turn makes a change of names, which waits then.
func (d *Disk) turn(c change) {
	if d.names == nil {
		d.names, d.safe = table{}, table{}
	}
	d.used -= d.names.size(c.to)
	if c.to == "" {
		d.used -= d.names.size(c.from)
	}
	c.apply(d.names)
	d.waits = append(d.waits, c)
}

// settle makes the first n changes that wait safe; no other one waits any more.
func (d *Disk) settle(n int) {
	for _, c := range d.waits[:n] {
		c.apply(d.safe)
	}
	d.waits = nil
}

// trim leaves of the bytes that aren't safe as many as keep says.
func (d *Disk) trim(keep []int) {
	d.used = 0
	i := 0
	for _, name := range d.names.sorted() {
		f := d.names[name]
		if loose := len(f.bytes) - f.safe; loose > 0 {
			more := modulo(pick(keep, i), loose+1)
			f.bytes = slices.Clone(f.bytes[:f.safe+more])
			i++
		}
		f.safe = len(f.bytes)
		d.used += len(f.bytes)
	}
}

// pick is the i-th number of keep, from the first one on again; 0 without any.
func pick(keep []int, i int) int {
	if len(keep) == 0 {
		return 0
	}
	return keep[i%len(keep)]
}

// modulo is never below 0; m is 1 or more.
func modulo(n, m int) int {
	r := n % m
	if r < 0 {
		r += m
	}
	return r
}

func right(name string) bool {
	if len(name) < 1 || len(name) > maxName {
		return false
	}
	for i := range len(name) {
		if name[i] < '!' || name[i] > '~' {
			return false
		}
	}
	return true
}
