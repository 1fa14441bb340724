package atom_test

import (
	"math"
	"slices"
	"testing"

	"sluice/api"
	"sluice/atom"
)

// dice: numbers that hang on its beginning alone.
type dice uint64

func (d *dice) roll(n int) int {
	*d = *d*6364136223846793005 + 1442695040888963407
	return int(uint64(*d) >> 33 % uint64(n))
}

func (d *dice) bytes(n int) []byte {
	b := make([]byte, n)
	for i := range b {
		b[i] = byte(d.roll(256))
	}
	return b
}

const maxCap = 1 << 40

// edges: numbers about which an op may be right or not. (The last ones would be others, if their low bits alone were
// looked at.)
func edges() []int {
	return []int{
		math.MinInt, -maxCap, -2, -1, 0, 1, 2, 1000, 1001, 1 << 32, maxCap - 1, maxCap, maxCap + 1, math.MaxInt - 1, math.MaxInt,
		1<<32 + 1, 1<<41 + 1, -1<<32 + 1,
	}
}

func op(kind int, name string, numbers ...int) api.Op {
	o := api.Op{Kind: kind, Name: name}
	if len(numbers) > 0 {
		o.A = numbers[0]
	}
	if len(numbers) > 1 {
		o.B = numbers[1]
	}
	return o
}

func made(t *testing.T) *atom.Map {
	t.Helper()
	m := atom.New()
	if m == nil {
		t.Fatal("New: nil")
	}
	return m
}

// with makes a map with the counter k of a cap and a value.
func with(t *testing.T, limit, value int) *atom.Map {
	t.Helper()
	m := made(t)
	wantDo(t, m, op(api.OpCreate, "k", limit, value), 0, api.OK)
	return m
}

// wantDo does an op that is no OpHold.
func wantDo(t *testing.T, m *atom.Map, o api.Op, answer int, err api.Errno) {
	t.Helper()
	wantDone(t, m, o, 0, answer, err)
}

func wantDone(t *testing.T, m *atom.Map, o api.Op, hold, answer int, err api.Errno) {
	t.Helper()
	if n, e := m.Do(o, hold); n != answer || e != err {
		t.Errorf("Do(%+v, %d): %d, %d, want %d, %d", o, hold, n, e, answer, err)
	}
}

// wantHold makes a hold of k.
func wantHold(t *testing.T, m *atom.Map, amount, number int) {
	t.Helper()
	wantDone(t, m, op(api.OpHold, "k", amount, 5), number, number, api.OK)
}

func wantAllows(t *testing.T, m *atom.Map, o api.Op, err api.Errno, value int, allowed bool) {
	t.Helper()
	e := api.Effect{Op: o, Err: err, Value: value}
	if got := m.Allows(e); got != allowed {
		t.Errorf("Allows(%+v): %v, want %v", e, got, allowed)
	}
}

// wantPeek: there is a counter of these numbers.
func wantPeek(t *testing.T, m *atom.Map, name string, value, held, limit int) {
	t.Helper()
	if v, h, l, there := m.Peek(name); v != value || h != held || l != limit || !there {
		t.Errorf("Peek(%q): %d/%d of %d, %v, want %d/%d of %d", name, v, h, l, there, value, held, limit)
	}
}

// wantNone: there is no counter of this name.
func wantNone(t *testing.T, m *atom.Map, name string) {
	t.Helper()
	if v, h, l, there := m.Peek(name); v != 0 || h != 0 || l != 0 || there {
		t.Errorf("Peek(%q): %d/%d of %d, %v, want none", name, v, h, l, there)
	}
}

func wantNames(t *testing.T, m *atom.Map, list ...string) {
	t.Helper()
	if got := m.Names(); !slices.Equal(got, list) {
		t.Errorf("Names: %q, want %q", got, list)
	}
}

// state: all that Peek tells.
type state struct {
	value, held, limit int
	there              bool
}

func seen(m *atom.Map, name string) state {
	value, held, limit, there := m.Peek(name)
	return state{value, held, limit, there}
}
