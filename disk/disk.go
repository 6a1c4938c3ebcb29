// Package disk is layer 1: files that may not survive. See shared/doc/01-disk.md.
package disk

import (
	"maps"
	"slices"

	"geyser/api"
)

const maxName = 60

// Disk has files, and tells what of them is safe. The zero value is an empty disk without room.
type Disk struct {
	capacity int
	used     int
	names    table
	safe     table
	waits    []change
	fuse     timer
	fault    timer
	lost     bool
}

// New: an empty disk with room for so many bytes.
func New(capacity int) (*Disk, api.Errno) {
	if capacity < 0 || capacity > api.MaxDisk {
		return nil, api.ErrArg
	}
	return &Disk{capacity: capacity}, api.OK
}

// Create makes an empty file; its name waits for a Flush.
func (d *Disk) Create(name string) api.Errno {
	if e := d.power(); e != api.OK {
		return e
	}
	if !right(name) {
		return api.ErrArg
	}
	if d.names[name] != nil {
		return api.ErrTwice
	}
	if e := d.pass(); e != api.OK {
		return e
	}
	d.turn(change{made: &file{}, to: name})
	return api.OK
}

// Append lets a file grow; what it grows by isn't safe ahead of a Sync.
func (d *Disk) Append(name string, b []byte) api.Errno {
	if e := d.power(); e != api.OK {
		return e
	}
	f := d.names[name]
	if f == nil {
		return api.ErrNone
	}
	if len(b) > d.Room() {
		return api.ErrFull
	}
	e := d.pass()
	switch e {
	case api.ErrIO:
		return e
	case api.ErrLost:
		b = b[:len(b)/2]
	}
	f.bytes = append(f.bytes, b...)
	d.used += len(b)
	return e
}

// Rename gives a file another name, at once; that waits for a Flush.
func (d *Disk) Rename(from, to string) api.Errno {
	if e := d.power(); e != api.OK {
		return e
	}
	if !right(to) || from == to {
		return api.ErrArg
	}
	if d.names[from] == nil {
		return api.ErrNone
	}
	if e := d.pass(); e != api.OK {
		return e
	}
	d.turn(change{from: from, to: to})
	return api.OK
}

// Remove takes a file's name away; that waits for a Flush.
func (d *Disk) Remove(name string) api.Errno {
	if e := d.power(); e != api.OK {
		return e
	}
	if d.names[name] == nil {
		return api.ErrNone
	}
	if e := d.pass(); e != api.OK {
		return e
	}
	d.turn(change{from: name})
	return api.OK
}

// Sync makes all bytes of a file safe, but not its name.
func (d *Disk) Sync(name string) api.Errno {
	if e := d.power(); e != api.OK {
		return e
	}
	f := d.names[name]
	if f == nil {
		return api.ErrNone
	}
	if e := d.pass(); e != api.OK {
		return e
	}
	f.safe = len(f.bytes)
	return api.OK
}

// Flush makes all names safe, but no bytes.
func (d *Disk) Flush() api.Errno {
	if e := d.power(); e != api.OK {
		return e
	}
	if e := d.pass(); e != api.OK {
		return e
	}
	d.settle(len(d.waits))
	return api.OK
}

// Read gives a file's bytes.
func (d *Disk) Read(name string) ([]byte, api.Errno) {
	if e := d.power(); e != api.OK {
		return nil, e
	}
	f := d.names[name]
	if f == nil {
		return nil, api.ErrNone
	}
	if d.fault.due() {
		return nil, api.ErrIO
	}
	return slices.Clone(f.bytes), api.OK
}

// Names gives the names of all files, rising.
func (d *Disk) Names() []string {
	if d == nil {
		return nil
	}
	return d.names.sorted()
}

// Room tells how many more bytes there is room for; it may be below 0 behind a Restart.
func (d *Disk) Room() int {
	if d == nil {
		return 0
	}
	return d.capacity - d.used
}

// Waits tells how many changes of names wait for a Flush.
func (d *Disk) Waits() int {
	if d == nil {
		return 0
	}
	return len(d.waits)
}

// Lost tells whether the power is gone.
func (d *Disk) Lost() bool {
	return d != nil && d.lost
}

// Fuse lets the power go at the change behind the next n.
func (d *Disk) Fuse(n int) api.Errno {
	if e := d.power(); e != api.OK {
		return e
	}
	if n < 0 {
		return api.ErrArg
	}
	d.fuse = timer{set: true, left: n}
	return api.OK
}

// Fault lets the call behind the next n fail, once.
func (d *Disk) Fault(n int) api.Errno {
	if e := d.power(); e != api.OK {
		return e
	}
	if n < 0 {
		return api.ErrArg
	}
	d.fault = timer{set: true, left: n}
	return api.OK
}

// Restart keeps what is safe, and of the rest as much as names and keep say.
func (d *Disk) Restart(names int, keep []int) {
	if d == nil {
		return
	}
	d.settle(modulo(names, len(d.waits)+1))
	d.names = maps.Clone(d.safe)
	d.trim(keep)
	d.fuse, d.fault, d.lost = timer{}, timer{}, false
}

// Clone gives a disk by itself that is as this one is.
func (d *Disk) Clone() *Disk {
	if d == nil {
		return nil
	}
	c := *d
	c.safe = d.safe.clone()
	c.waits = slices.Clone(d.waits)
	for i, w := range c.waits {
		if w.made != nil {
			c.waits[i].made = w.made.clone()
		}
	}
	// Each file is in safe or made by a change that waits, so playing these
	// again finds the copy that every name means now.
	c.names = maps.Clone(c.safe)
	for _, w := range c.waits {
		w.apply(c.names)
	}
	return &c
}
