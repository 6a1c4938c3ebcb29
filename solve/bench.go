package solve

import (
	"slices"

	"geyser/field"
	"geyser/peel"
	"geyser/vector"
)

// bench is where equations are worked on: what is done to one is done to its row, and kept as a deed.
type bench struct {
	rows  [][]byte // of each equation its numbers of all unknowns, as they are by now
	deeds []Deed
	steps []peel.Pivot // the equations used so far: a row has 1 at its own unknown, 0 at those of the steps ahead
}

// usePivots takes the equations in the order in which they were peeled. None of them has an unknown of a later
// one, so that only held unknowns are left beside its own, and most rows stay short of numbers.
func (b *bench) usePivots(pivots []peel.Pivot) {
	for _, p := range pivots {
		b.cancel(p.Eq)
		b.take(p)
	}
}

// useOthers takes those of the other equations that tell something new, till there are as many steps as there can
// be.
func (b *bench) useOthers(most int) {
	used := make([]bool, len(b.rows))
	for _, s := range b.steps {
		used[s.Eq] = true
	}
	for eq, done := range used {
		if len(b.steps) == most {
			return
		}
		if !done {
			b.useOther(eq)
		}
	}
}

// useOther takes an equation by the first unknown that is left of it. If none is, no step leans on it: its deeds
// are let go.
func (b *bench) useOther(eq int) {
	before := len(b.deeds)
	b.cancel(eq)
	at := slices.IndexFunc(b.rows[eq], func(c byte) bool { return c != 0 })
	if at < 0 {
		b.deeds = b.deeds[:before]
		return
	}
	b.take(peel.Pivot{Eq: eq, At: at})
}

// cancel clears the steps' unknowns from an equation. In this order none comes back, for a step's row has
// nothing of the steps ahead of it.
func (b *bench) cancel(eq int) {
	for _, s := range b.steps {
		b.add(eq, s.Eq, b.rows[eq][s.At])
	}
}

// take makes an equation the next step: its unknown's number becomes 1.
func (b *bench) take(p peel.Pivot) {
	b.scale(p.Eq, field.Inv(b.rows[p.Eq][p.At]))
	b.steps = append(b.steps, p)
}

// clearBack clears each step's unknown from the steps ahead of it. From the last one on each row has just its own
// unknown by then, so that nothing else comes into the others.
func (b *bench) clearBack() {
	for i, s := range slices.Backward(b.steps) {
		for _, ahead := range b.steps[:i] {
			b.add(ahead.Eq, s.Eq, b.rows[ahead.Eq][s.At])
		}
	}
}

// add adds c times an equation to another one; each number is its own negative, so this takes it away as well.
func (b *bench) add(to, from int, c byte) {
	if c == 0 {
		return
	}
	// No error can come: all rows are as long.
	b.rows[to], _ = vector.Axpy(b.rows[to], b.rows[from], c)
	b.deeds = append(b.deeds, Deed{To: to, From: from, C: c})
}

// scale makes an equation c times what it was.
func (b *bench) scale(eq int, c byte) {
	if c == 1 {
		return
	}
	b.rows[eq] = vector.Scale(b.rows[eq], c)
	b.deeds = append(b.deeds, Deed{To: eq, From: eq, C: c})
}

// where gives of each unknown the slot that it is in, when there is a step for each.
func (b *bench) where() []int {
	slots := make([]int, len(b.steps))
	for _, s := range b.steps {
		slots[s.At] = s.Eq
	}
	return slots
}
