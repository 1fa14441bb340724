package holds_test

import (
	"math"
	"testing"

	"sluice/api"
	"sluice/holds"
)

func TestP701New(t *testing.T) {
	for me := range 16 {
		for room := range 17 {
			wantBook(t, made(t, me, room), 0)
		}
	}
}

func TestP701Refused(t *testing.T) {
	for _, c := range []struct {
		me, room int
		err      api.Errno
	}{
		{-1, 2, api.ErrReplica}, {16, 2, api.ErrReplica}, {17, 0, api.ErrReplica}, {math.MinInt, 1, api.ErrReplica},
		{math.MaxInt, 1, api.ErrReplica}, {1 << 32, 1, api.ErrReplica}, {256, 16, api.ErrReplica},
		{-1, 99, api.ErrReplica}, {16, -1, api.ErrReplica}, {16, 17, api.ErrReplica},
		{0, -1, api.ErrArg}, {0, 17, api.ErrArg}, {15, -1, api.ErrArg}, {15, 17, api.ErrArg}, {3, 18, api.ErrArg},
		{3, math.MinInt, api.ErrArg}, {3, math.MaxInt, api.ErrArg}, {3, 1 << 32, api.ErrArg}, {3, 256, api.ErrArg},
	} {
		if b, e := holds.New(c.me, c.room); b != nil || e != c.err {
			t.Errorf("New(%d, %d): %v, %d, want nil, %d", c.me, c.room, b, e, c.err)
		}
	}
}

func TestP702Numbers(t *testing.T) {
	for me := range 16 {
		b, l := made(t, me, 3), rights(t, 100, 100, 0)
		for k := 1; k <= 3; k++ {
			wantHold(t, b, l, k, 0, 16*k+me, api.OK)
		}
		wantBook(t, b, 6, 16+me, 32+me, 48+me)
	}
}

// Whatever has become of the others: no number comes twice.
func TestP702NeverTwice(t *testing.T) {
	b, l := made(t, 7, 1), rights(t, 10, 10, 0)
	for k := 1; k <= 900; k += 3 {
		wantHold(t, b, l, 1, 4, 16*k+7, api.OK)
		wantCommit(t, b, l, 16*k+7, 1, api.OK)
		wantHold(t, b, l, 2, 4, 16*k+23, api.OK)
		wantRelease(t, b, l, 16*k+23, 2, api.OK)
		wantHold(t, b, l, 3, 4, 16*k+39, api.OK)
		wantExpired(t, b, l, 4, 16*k+39)
		if e := l.Inc(1); e != api.OK {
			t.Fatal(e)
		}
	}
	wantBook(t, b, 0)
}

func TestP702Of(t *testing.T) {
	for n := -40; n <= 40; n++ {
		wanted := n
		for wanted < 0 {
			wanted += 16
		}
		for wanted > 15 {
			wanted -= 16
		}
		if got := holds.Of(n); got != wanted {
			t.Errorf("Of(%d): %d, want %d", n, got, wanted)
		}
	}
	for n, wanted := range map[int]int{
		math.MaxInt: 15, math.MaxInt - 1: 14, math.MaxInt - 15: 0, math.MaxInt - 16: 15, math.MinInt: 0, math.MinInt + 1: 1,
		math.MinInt + 15: 15, math.MinInt + 16: 0, 1 << 40: 0, 1<<40 + 5: 5, 1<<32 - 1: 15, -1 << 40: 0, -1<<40 - 1: 15,
	} {
		if got := holds.Of(n); got != wanted {
			t.Errorf("Of(%d): %d, want %d", n, got, wanted)
		}
	}
}

func TestP703Hold(t *testing.T) {
	b, l := made(t, 3, 16), rights(t, 20, 10, 2)
	wantHold(t, b, l, 4, 7, 19, api.OK)
	wantLedger(t, l, 6, 2, 4)
	wantBook(t, b, 4, 19)
	wantHold(t, b, l, 6, -7, 35, api.OK)
	wantLedger(t, l, 0, 2, 10)
	wantBook(t, b, 10, 19, 35)
	wantHold(t, b, l, 1, 7, 0, api.ErrRights)
	wantLedger(t, l, 0, 2, 10)
	wantBook(t, b, 10, 19, 35)
}

func TestP703Greatest(t *testing.T) {
	b, l := made(t, 15, 16), rights(t, maxCap, maxCap, 0)
	wantHold(t, b, l, maxCap, 0, 31, api.OK)
	wantLedger(t, l, 0, 0, maxCap)
	wantBook(t, b, maxCap, 31)
	wantCommit(t, b, l, 31, maxCap, api.OK)
	wantLedger(t, l, 0, maxCap, 0)
}

var noAmounts = []int{0, -1, -2, -maxCap, math.MinInt, maxCap + 1, maxCap + 2, 1 << 62, math.MaxInt, 1<<41 + 1}

// A refused one changes nothing and uses up no number.
func TestP703Refused(t *testing.T) {
	b, l := made(t, 2, 2), rights(t, 10, 5, 5)
	for _, amount := range noAmounts {
		wantHold(t, b, l, amount, 9, 0, api.ErrArg)
	}
	for _, amount := range []int{6, 7, 10, 11, 1 << 32, maxCap} {
		wantHold(t, b, l, amount, 9, 0, api.ErrRights)
	}
	wantLedger(t, l, 5, 5, 0)
	wantBook(t, b, 0)
	wantHold(t, b, l, 1, 9, 18, api.OK)
	wantHold(t, b, l, 5, 9, 0, api.ErrRights)
	wantHold(t, b, l, 1, 9, 34, api.OK)
	wantHold(t, b, l, 1, 9, 0, api.ErrHolds)
	wantBook(t, b, 2, 18, 34)
	wantLedger(t, l, 3, 5, 2)
	wantRelease(t, b, l, 18, 1, api.OK)
	wantHold(t, b, l, 1, 9, 50, api.OK)
}

// ErrArg is ahead of ErrHolds, and that ahead of the ledger's.
func TestP703Order(t *testing.T) {
	b, l := made(t, 2, 1), rights(t, 10, 1, 0)
	wantHold(t, b, l, 1, 9, 18, api.OK)
	for _, amount := range noAmounts {
		wantHold(t, b, l, amount, 9, 0, api.ErrArg)
	}
	for _, amount := range []int{1, 2, maxCap} {
		wantHold(t, b, l, amount, 9, 0, api.ErrHolds)
	}
	wantBook(t, b, 1, 18)
}

func TestP703Room(t *testing.T) {
	for room := range 17 {
		b, l := made(t, 5, room), rights(t, 100, 100, 0)
		for k := 1; k <= room; k++ {
			wantHold(t, b, l, 1, 9, 16*k+5, api.OK)
		}
		wantHold(t, b, l, 1, 9, 0, api.ErrHolds)
		wantLedger(t, l, 100-room, 0, room)
		if room > 0 {
			// Whatever ends a hold makes room for one, and for no more.
			wantCommit(t, b, l, 21, 1, api.OK)
			wantHold(t, b, l, 1, 9, 16*room+21, api.OK)
			wantHold(t, b, l, 1, 9, 0, api.ErrHolds)
		}
	}
}

func TestP704Commit(t *testing.T) {
	b, l := made(t, 3, 4), rights(t, 20, 10, 0)
	wantHold(t, b, l, 4, 7, 19, api.OK)
	wantHold(t, b, l, 5, 7, 35, api.OK)
	wantCommit(t, b, l, 35, 5, api.OK)
	wantLedger(t, l, 1, 5, 4)
	wantBook(t, b, 4, 19)
	wantCommit(t, b, l, 19, 4, api.OK)
	wantLedger(t, l, 1, 9, 0)
	wantBook(t, b, 0)
}

func TestP704Release(t *testing.T) {
	b, l := made(t, 3, 4), rights(t, 20, 10, 0)
	wantHold(t, b, l, 4, 7, 19, api.OK)
	wantHold(t, b, l, 5, 7, 35, api.OK)
	wantRelease(t, b, l, 19, 4, api.OK)
	wantLedger(t, l, 5, 0, 5)
	wantBook(t, b, 5, 35)
	wantRelease(t, b, l, 35, 5, api.OK)
	wantLedger(t, l, 10, 0, 0)
	wantBook(t, b, 0)
}

// A hold ends once, by whatever it ends.
func TestP704Once(t *testing.T) {
	b, l := made(t, 3, 3), rights(t, 20, 10, 0)
	wantHold(t, b, l, 2, 7, 19, api.OK)
	wantHold(t, b, l, 3, 7, 35, api.OK)
	wantHold(t, b, l, 4, 5, 51, api.OK)
	wantCommit(t, b, l, 19, 2, api.OK)
	wantRelease(t, b, l, 35, 3, api.OK)
	wantExpired(t, b, l, 5, 51)
	for _, number := range []int{19, 35, 51} {
		wantCommit(t, b, l, number, 0, api.ErrHold)
		wantRelease(t, b, l, number, 0, api.ErrHold)
	}
	wantExpired(t, b, l, math.MaxInt)
	wantLedger(t, l, 8, 2, 0)
}

// ErrReplica is ahead of ErrHold: a number of another replica, whether there could be such a hold or not.
func TestP704NoSuch(t *testing.T) {
	b, l := made(t, 3, 2), rights(t, 20, 10, 0)
	wantHold(t, b, l, 2, 7, 19, api.OK)
	for _, number := range []int{18, 20, 16, 0, 2, 4, 35 + 1, -1, -12, math.MaxInt, math.MinInt, math.MinInt + 2, 51 << 32} {
		wantCommit(t, b, l, number, 0, api.ErrReplica)
		wantRelease(t, b, l, number, 0, api.ErrReplica)
	}
	for _, number := range []int{3, 35, 51, -13, -29, -19 + 6, 19 + 1<<32, 19 + 1<<8, math.MaxInt - 12, math.MinInt + 3} {
		wantCommit(t, b, l, number, 0, api.ErrHold)
		wantRelease(t, b, l, number, 0, api.ErrHold)
	}
	wantLedger(t, l, 8, 0, 2)
	wantBook(t, b, 2, 19)
}

// A ledger that has not locked so much refuses, and the hold stays as it is.
func TestP704LedgerRefuses(t *testing.T) {
	b, l := made(t, 3, 2), rights(t, 20, 10, 0)
	wantHold(t, b, l, 4, 7, 19, api.OK)
	if e := l.Free(1); e != api.OK {
		t.Fatal(e)
	}
	wantCommit(t, b, l, 19, 0, api.ErrRights)
	wantRelease(t, b, l, 19, 0, api.ErrRights)
	wantLedger(t, l, 7, 0, 3)
	wantBook(t, b, 4, 19)
	// What is refused ahead of it is told first.
	wantCommit(t, b, l, 20, 0, api.ErrReplica)
	wantCommit(t, b, l, 35, 0, api.ErrHold)
	if e := l.Lock(1); e != api.OK {
		t.Fatal(e)
	}
	wantCommit(t, b, l, 19, 4, api.OK)
	wantLedger(t, l, 6, 4, 0)
}

func TestP705Expire(t *testing.T) {
	b, l := made(t, 1, 5), rights(t, 100, 100, 0)
	for i, due := range []int{7, 3, 5, 3, 9} {
		wantHold(t, b, l, i+1, due, 16*(i+1)+1, api.OK)
	}
	wantExpired(t, b, l, 2)
	wantLedger(t, l, 85, 0, 15)
	wantExpired(t, b, l, 3, 33, 65)
	wantLedger(t, l, 91, 0, 9)
	wantExpired(t, b, l, 3)
	wantBook(t, b, 9, 17, 49, 81)
	// By their numbers, not by the ticks at which they are due.
	wantExpired(t, b, l, 8, 17, 49)
	wantBook(t, b, 5, 81)
	wantExpired(t, b, l, 100, 81)
	wantLedger(t, l, 100, 0, 0)
	wantBook(t, b, 0)
}

// The twelfth number has more digits than the second: they rise as numbers.
func TestP705Rising(t *testing.T) {
	b, l := made(t, 1, 16), rights(t, 100, 100, 0)
	var all []int
	for k := 1; k <= 16; k++ {
		wantHold(t, b, l, 1, 16-k, 16*k+1, api.OK)
		all = append(all, 16*k+1)
	}
	wantBook(t, b, 16, all...)
	wantExpired(t, b, l, 15, all...)
	wantBook(t, b, 0)
}

func TestP705AnyTick(t *testing.T) {
	b, l := made(t, 0, 4), rights(t, 100, 100, 0)
	wantHold(t, b, l, 1, math.MinInt, 16, api.OK)
	wantHold(t, b, l, 2, math.MaxInt, 32, api.OK)
	wantHold(t, b, l, 3, -5, 48, api.OK)
	wantHold(t, b, l, 4, 0, 64, api.OK)
	wantExpired(t, b, l, math.MinInt, 16)
	wantExpired(t, b, l, -6)
	wantExpired(t, b, l, -5, 48)
	wantExpired(t, b, l, math.MaxInt-1, 64)
	wantExpired(t, b, l, math.MaxInt, 32)
	wantLedger(t, l, 100, 0, 0)
}

// A hold that the ledger does not take back stays; those behind it are looked at all the same.
func TestP705LedgerRefuses(t *testing.T) {
	b, l := made(t, 0, 4), rights(t, 100, 100, 0)
	for i, amount := range []int{2, 8, 3, 4} {
		wantHold(t, b, l, amount, 5, 16*(i+1), api.OK)
	}
	if e := l.Free(12); e != api.OK {
		t.Fatal(e)
	}
	wantExpired(t, b, l, 5, 16, 48)
	wantLedger(t, l, 100, 0, 0)
	wantBook(t, b, 12, 32, 64)
	if e := l.Lock(12); e != api.OK {
		t.Fatal(e)
	}
	wantExpired(t, b, l, 4)
	wantExpired(t, b, l, 5, 32, 64)
	wantLedger(t, l, 100, 0, 0)
	wantBook(t, b, 0)
}

func TestP706Looking(t *testing.T) {
	b, l := made(t, 9, 16), rights(t, maxCap, maxCap, 0)
	wantBook(t, b, 0)
	sum := 0
	var numbers []int
	for k := 1; k <= 16; k++ {
		amount := k * k << 29
		wantHold(t, b, l, amount, 0, 16*k+9, api.OK)
		sum += amount
		numbers = append(numbers, 16*k+9)
		wantBook(t, b, sum, numbers...)
		wantBook(t, b, sum, numbers...)
	}
	wantRelease(t, b, l, 16*8+9, 64<<29, api.OK)
	numbers = append(numbers[:7], numbers[8:]...)
	wantBook(t, b, sum-64<<29, numbers...)
}
