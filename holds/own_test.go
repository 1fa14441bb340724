package holds_test

import (
	"testing"

	"sluice/api"
)

// A book keeps no ledger: what is held by way of one may end by way of another.
func TestP707AnyLedger(t *testing.T) {
	b, one, two := made(t, 3, 4), rights(t, 20, 10, 0), rights(t, 20, 10, 0)
	wantHold(t, b, one, 4, 7, 19, api.OK)
	wantHold(t, b, two, 5, 7, 35, api.OK)
	wantLedger(t, one, 6, 0, 4)
	wantLedger(t, two, 5, 0, 5)
	wantCommit(t, b, one, 35, 0, api.ErrRights)
	wantCommit(t, b, two, 19, 4, api.OK)
	wantLedger(t, one, 6, 0, 4)
	wantLedger(t, two, 5, 4, 1)
	wantExpired(t, b, two, 7)
	wantHold(t, b, one, 2, 7, 51, api.OK)
	wantExpired(t, b, one, 7, 35)
	wantLedger(t, one, 9, 0, 1)
	wantBook(t, b, 2, 51)
}

// Sixteen holds of all rights of sixteen ledgers.
func TestP707GreatestSum(t *testing.T) {
	b := made(t, 0, 16)
	for k := 1; k <= 16; k++ {
		wantHold(t, b, rights(t, maxCap, maxCap, 0), maxCap, 1, 16*k, api.OK)
	}
	if got := b.Sum(); got != 16*maxCap {
		t.Errorf("Sum: %d", got)
	}
}

func TestP708TwoBooks(t *testing.T) {
	l := rights(t, 20, 10, 0)
	one, two := made(t, 3, 2), made(t, 3, 2)
	wantHold(t, one, l, 2, 7, 19, api.OK)
	wantHold(t, one, l, 1, 7, 35, api.OK)
	wantBook(t, two, 0)
	wantCommit(t, two, l, 19, 0, api.ErrHold)
	wantExpired(t, two, l, 9)
	wantHold(t, two, l, 3, 8, 19, api.OK)
	wantRelease(t, two, l, 19, 3, api.OK)
	wantBook(t, one, 3, 19, 35)
	wantBook(t, two, 0)
	wantHold(t, two, l, 3, 8, 35, api.OK)
	wantExpired(t, one, l, 8, 19, 35)
	wantBook(t, two, 3, 35)
}

// What is answered, up to the end of its spare room, is the caller's.
func TestP708NewMemory(t *testing.T) {
	b, l := made(t, 3, 16), rights(t, 100, 100, 0)
	for k := 1; k <= 5; k++ {
		wantHold(t, b, l, 1, k, 16*k+3, api.OK)
	}
	first, second := b.Numbers(), b.Numbers()
	spoil(first)
	wantBook(t, b, 5, 19, 35, 51, 67, 83)
	gone := b.Expire(l, 3)
	spoil(gone)
	for i, number := range []int{19, 35, 51, 67, 83} {
		if second[i] != number {
			t.Errorf("a change of one answer reaches another: %v", second)
		}
	}
	wantBook(t, b, 2, 67, 83)
	spoil(second)
	wantExpired(t, b, l, 5, 67, 83)
	for _, n := range gone {
		if n != -77 {
			t.Errorf("a later call reaches what was answered: %v", gone)
		}
	}
}

func spoil(list []int) {
	list = list[:cap(list)]
	for i := range list {
		list[i] = -77
	}
}
