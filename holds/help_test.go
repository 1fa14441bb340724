package holds_test

import (
	"slices"
	"testing"

	"sluice/api"
	"sluice/holds"
	"sluice/ledger"
)

// dice: numbers that hang on its beginning alone.
type dice uint64

func (d *dice) roll(n int) int {
	*d = *d*6364136223846793005 + 1442695040888963407
	return int(uint64(*d) >> 33 % uint64(n))
}

func (d *dice) bytes(n int) []byte {
	b := make([]byte, n)
	for i := range b {
		b[i] = byte(d.roll(256))
	}
	return b
}

const maxCap = 1 << 40

func made(t *testing.T, me, room int) *holds.Book {
	t.Helper()
	b, e := holds.New(me, room)
	if e != api.OK || b == nil {
		t.Fatalf("New(%d, %d): %v, %d", me, room, b, e)
	}
	return b
}

// rights makes a ledger with so many down and up rights.
func rights(t *testing.T, limit, down, up int) *ledger.Ledger {
	t.Helper()
	l, e := ledger.New(limit)
	if e != api.OK {
		t.Fatalf("ledger.New(%d): %d", limit, e)
	}
	if e := l.In(api.Rights{Down: down, Up: up}); e != api.OK {
		t.Fatalf("In(%d, %d): %d", down, up, e)
	}
	return l
}

func want(t *testing.T, what string, got int, e api.Errno, wanted int, err api.Errno) {
	t.Helper()
	if got != wanted || e != err {
		t.Errorf("%s: %d, %d, want %d, %d", what, got, e, wanted, err)
	}
}

func wantHold(t *testing.T, b *holds.Book, l *ledger.Ledger, amount, due, number int, err api.Errno) {
	t.Helper()
	n, e := b.Hold(l, amount, due)
	want(t, "Hold", n, e, number, err)
}

func wantCommit(t *testing.T, b *holds.Book, l *ledger.Ledger, number, amount int, err api.Errno) {
	t.Helper()
	n, e := b.Commit(l, number)
	want(t, "Commit", n, e, amount, err)
}

func wantRelease(t *testing.T, b *holds.Book, l *ledger.Ledger, number, amount int, err api.Errno) {
	t.Helper()
	n, e := b.Release(l, number)
	want(t, "Release", n, e, amount, err)
}

func wantExpired(t *testing.T, b *holds.Book, l *ledger.Ledger, now int, numbers ...int) {
	t.Helper()
	if got := b.Expire(l, now); !slices.Equal(got, numbers) {
		t.Errorf("Expire(%d): %v, want %v", now, got, numbers)
	}
}

func wantBook(t *testing.T, b *holds.Book, sum int, numbers ...int) {
	t.Helper()
	if got := b.Sum(); got != sum {
		t.Errorf("Sum: %d, want %d", got, sum)
	}
	if got := b.Numbers(); !slices.Equal(got, numbers) {
		t.Errorf("Numbers: %v, want %v", got, numbers)
	}
}

func wantLedger(t *testing.T, l *ledger.Ledger, down, up, held int) {
	t.Helper()
	if r := l.Rights(); r != (api.Rights{Down: down, Up: up}) || l.Held() != held {
		t.Errorf("the ledger: %d/%d/%d, want %d/%d/%d", r.Down, r.Up, l.Held(), down, up, held)
	}
}
