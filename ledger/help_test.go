package ledger_test

import (
	"math"
	"testing"

	"sluice/api"
	"sluice/ledger"
)

// dice: numbers that hang on its beginning alone.
type dice uint64

func (d *dice) roll(n int) int {
	*d = *d*6364136223846793005 + 1442695040888963407
	return int(uint64(*d) >> 33 % uint64(n))
}

func (d *dice) bytes(n int) []byte {
	b := make([]byte, n)
	for i := range b {
		b[i] = byte(d.roll(256))
	}
	return b
}

const maxCap = 1 << 40

// noAmounts: numbers that are not from 1 to maxCap. (The last one would be, if its low 32 bits alone were looked at.)
var noAmounts = []int{0, -1, -2, -maxCap, math.MinInt, maxCap + 1, maxCap + 2, 1 << 41, 1 << 62, math.MaxInt - 1, math.MaxInt, 1<<41 + 1}

// state: all that a ledger tells.
type state struct{ down, up, held, limit, recaps int }

func seen(l *ledger.Ledger) state {
	r := l.Rights()
	limit, recaps := l.Cap()
	return state{r.Down, r.Up, l.Held(), limit, recaps}
}

func rights(down, up int) api.Rights { return api.Rights{Down: down, Up: up} }

func made(t *testing.T, limit int) *ledger.Ledger {
	t.Helper()
	l, e := ledger.New(limit)
	if e != api.OK || l == nil {
		t.Fatalf("New(%d): %v, %d", limit, l, e)
	}
	return l
}

// at makes a ledger that is in a state.
func at(t *testing.T, s state) *ledger.Ledger {
	t.Helper()
	l := made(t, s.limit)
	if s.recaps > 0 && !l.Hear(s.limit, s.recaps) {
		t.Fatalf("Hear(%d, %d): false", s.limit, s.recaps)
	}
	want(t, "In", l.In(rights(s.down+s.held, s.up)), api.OK)
	if s.held > 0 {
		want(t, "Lock", l.Lock(s.held), api.OK)
	}
	wantState(t, "a ledger that was made", l, s)
	return l
}

func want(t *testing.T, what string, got, wanted api.Errno) {
	t.Helper()
	if got != wanted {
		t.Errorf("%s: %d, want %d", what, got, wanted)
	}
}

func wantState(t *testing.T, what string, l *ledger.Ledger, wanted state) {
	t.Helper()
	if got := seen(l); got != wanted {
		t.Errorf("%s: %+v, want %+v", what, got, wanted)
	}
}

// after holds against each other what a call answers, and the ledger's state behind it.
func after(t *testing.T, what string, l *ledger.Ledger, got, wanted api.Errno, s state) {
	t.Helper()
	want(t, what, got, wanted)
	wantState(t, what, l, s)
}
