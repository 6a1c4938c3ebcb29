package disk

import (
	"maps"
	"math/rand"
	"slices"
	"testing"

	"geyser/api"
)

// model is a disk told in another way: it keeps what the names were ahead of
// each change that waits, and finds files by numbers.
type model struct {
	capacity    int
	bytes       [][]byte
	safe        []int
	past        []map[string]int
	now         map[string]int
	fuse, fault int // -1: none
	lost        bool
}

func newModel(capacity int) *model {
	return &model{capacity: capacity, now: map[string]int{}, fuse: -1, fault: -1}
}

func (m *model) room() int {
	n := m.capacity
	for _, f := range m.now {
		n -= len(m.bytes[f])
	}
	return n
}

func (m *model) fails() bool {
	if m.fault < 0 {
		return false
	}
	m.fault--
	return m.fault < 0
}

func (m *model) burns() bool {
	if m.fuse < 0 {
		return false
	}
	m.fuse--
	m.lost = m.fuse < 0
	return m.lost
}

// asked tells a change's answer when its own errors are asked.
func (m *model) asked(own api.Errno) api.Errno {
	switch {
	case m.lost:
		return api.ErrLost
	case own != api.OK:
		return own
	case m.fails():
		return api.ErrIO
	case m.burns():
		return api.ErrLost
	}
	return api.OK
}

func (m *model) named(name string, e api.Errno) api.Errno {
	if _, ok := m.now[name]; !ok {
		return api.ErrNone
	}
	return e
}

func (m *model) wait() {
	m.past = append(m.past, maps.Clone(m.now))
}

func (m *model) create(name string) api.Errno {
	own := api.OK
	if name == "" {
		own = api.ErrArg
	} else if m.named(name, api.OK) == api.OK {
		own = api.ErrTwice
	}
	e := m.asked(own)
	if e == api.OK {
		m.wait()
		m.now[name] = len(m.bytes)
		m.bytes, m.safe = append(m.bytes, nil), append(m.safe, 0)
	}
	return e
}

func (m *model) append(name string, b []byte) api.Errno {
	own := api.OK
	if len(b) > m.room() {
		own = api.ErrFull
	}
	own = m.named(name, own)
	was := m.lost
	e := m.asked(own)
	if e == api.ErrLost && !was {
		b = b[:len(b)/2]
	} else if e != api.OK {
		return e
	}
	f := m.now[name]
	m.bytes[f] = slices.Concat(m.bytes[f], b)
	return e
}

func (m *model) rename(from, to string) api.Errno {
	own := m.named(from, api.OK)
	if to == "" || from == to {
		own = api.ErrArg
	}
	e := m.asked(own)
	if e == api.OK {
		m.wait()
		f := m.now[from]
		delete(m.now, from)
		m.now[to] = f
	}
	return e
}

func (m *model) remove(name string) api.Errno {
	e := m.asked(m.named(name, api.OK))
	if e == api.OK {
		m.wait()
		delete(m.now, name)
	}
	return e
}

func (m *model) sync(name string) api.Errno {
	e := m.asked(m.named(name, api.OK))
	if e == api.OK {
		m.safe[m.now[name]] = len(m.bytes[m.now[name]])
	}
	return e
}

func (m *model) flush() api.Errno {
	e := m.asked(api.OK)
	if e == api.OK {
		m.past = nil
	}
	return e
}

func (m *model) read(name string) ([]byte, api.Errno) {
	switch {
	case m.lost:
		return nil, api.ErrLost
	case m.named(name, api.OK) != api.OK:
		return nil, api.ErrNone
	case m.fails():
		return nil, api.ErrIO
	}
	return m.bytes[m.now[name]], api.OK
}

func (m *model) restart(names int, keep []int) {
	states := append(m.past, m.now)
	l := len(states)
	m.now, m.past = states[(names%l+l)%l], nil
	i := 0
	for _, name := range slices.Sorted(maps.Keys(m.now)) {
		f := m.now[name]
		if l := len(m.bytes[f]) - m.safe[f] + 1; l > 1 {
			k := 0
			if len(keep) > 0 {
				k = keep[i%len(keep)]
			}
			m.bytes[f] = m.bytes[f][:m.safe[f]+(k%l+l)%l]
			i++
		}
		m.safe[f] = len(m.bytes[f])
	}
	m.fuse, m.fault, m.lost = -1, -1, false
}

func (m *model) set(timer *int, n int) api.Errno {
	if m.lost {
		return api.ErrLost
	}
	if n < 0 {
		return api.ErrArg
	}
	*timer = n
	return api.OK
}

// step does the same by chance to both, and gives both answers.
func step(r *rand.Rand, d *Disk, m *model) (api.Errno, api.Errno) {
	names := []string{"", "a", "b", "c", "d/e", "f"}
	x, y := names[r.Intn(len(names))], names[r.Intn(len(names))]
	switch r.Intn(14) {
	case 0, 1:
		return d.Create(x), m.create(x)
	case 2, 3, 4:
		b := make([]byte, r.Intn(9))
		r.Read(b)
		return d.Append(x, b), m.append(x, b)
	case 5, 6:
		return d.Rename(x, y), m.rename(x, y)
	case 7:
		return d.Remove(x), m.remove(x)
	case 8, 9:
		return d.Sync(x), m.sync(x)
	case 10:
		return d.Flush(), m.flush()
	case 11:
		n := r.Intn(30) - 1
		return d.Fuse(n), m.set(&m.fuse, n)
	case 12:
		n := r.Intn(30) - 1
		return d.Fault(n), m.set(&m.fault, n)
	}
	if r.Intn(3) > 0 && !m.lost {
		return api.OK, api.OK
	}
	n, keep := r.Intn(40)-20, make([]int, r.Intn(4))
	for i := range keep {
		keep[i] = r.Intn(40) - 20
	}
	d.Restart(n, keep)
	m.restart(n, keep)
	return api.OK, api.OK
}

func alike(t *testing.T, d *Disk, m *model) {
	t.Helper()
	names := slices.Sorted(maps.Keys(m.now))
	if !slices.Equal(d.Names(), names) || d.Room() != m.room() || d.Waits() != len(m.past) || d.Lost() != m.lost {
		t.Fatal(d.Names(), names, d.Room(), m.room(), d.Waits(), len(m.past), d.Lost(), m.lost)
	}
	for _, name := range append(names, "none") {
		got, e := d.Read(name)
		want, f := m.read(name)
		if e != f || string(got) != string(want) {
			t.Fatalf("%s: %q %v, want %q %v", name, got, e, want, f)
		}
	}
}

func TestAgainstModel(t *testing.T) {
	for seed := range int64(300) {
		r := rand.New(rand.NewSource(seed))
		capacity := r.Intn(60)
		d, _ := New(capacity)
		m := newModel(capacity)
		for i := range 200 {
			if got, want := step(r, d, m); got != want {
				t.Fatal(seed, i, got, want)
			}
			if r.Intn(5) == 0 {
				d = d.Clone()
			}
			if r.Intn(5) == 0 {
				alike(t, d, m)
			}
		}
	}
}
