package atom_test

import (
	"fmt"
	"math"
	"slices"
	"testing"

	"sluice/api"
)

func TestP1601New(t *testing.T) {
	m := made(t)
	wantNames(t, m)
	for _, name := range []string{"k", "", "a b"} {
		wantNone(t, m, name)
	}
	wantDo(t, m, op(api.OpRead, "k"), 0, api.ErrNone)
}

// The chapter's examples.
func TestP1602Examples(t *testing.T) {
	m := made(t)
	wantDo(t, m, op(api.OpCreate, "k", 10, 11), 0, api.ErrCap)
	wantNone(t, m, "k")
	wantDo(t, m, op(api.OpCreate, "k", 10, 4), 0, api.OK)
	wantDo(t, m, op(api.OpCreate, "k", 5, 9), 0, api.ErrExists)
	wantPeek(t, m, "k", 4, 0, 10)
	wantDo(t, m, op(api.OpCreate, "k", 0, 0), 0, api.ErrArg)
	wantDo(t, m, op(api.OpLook, "k"), 0, api.ErrArg)
	wantDo(t, m, op(api.OpInc, "j", 1), 0, api.ErrNone)
	wantDo(t, m, op(api.OpInc, "k", 0), 0, api.ErrArg)
	wantDone(t, m, op(api.OpHold, "j", 1, 1), 0, 0, api.ErrNone)
	wantDo(t, m, op(api.OpInc, "k", 7), 0, api.ErrRights)
	wantDo(t, m, op(api.OpInc, "k", 6), 0, api.OK)
	wantPeek(t, m, "k", 10, 0, 10)
	wantDone(t, m, op(api.OpHold, "k", 3, 5), 16, 16, api.OK)
	wantDone(t, m, op(api.OpHold, "k", 1, 5), 16, 0, api.ErrArg)
	wantDone(t, m, op(api.OpHold, "k", 8, 5), 17, 0, api.ErrRights)
	wantPeek(t, m, "k", 7, 3, 10)
	wantDo(t, m, op(api.OpInc, "k", 1), 0, api.ErrRights)
	wantDo(t, m, op(api.OpTake, "k", 6, 1), 0, api.ErrMismatch)
	wantDo(t, m, op(api.OpTake, "k", 7, 8), 0, api.ErrRights)
	wantDo(t, m, op(api.OpTake, "k", 7, 2), 7, api.OK)
	wantPeek(t, m, "k", 5, 3, 10)
	wantDo(t, m, op(api.OpReset, "k", 8), 0, api.ErrCap)
	wantDo(t, m, op(api.OpReset, "k", 7), 7, api.OK)
	wantPeek(t, m, "k", 7, 3, 10)
	wantDo(t, m, op(api.OpRecap, "k", 9), 0, api.ErrCap)
	wantDo(t, m, op(api.OpRecap, "k", 12), 12, api.OK)
	wantPeek(t, m, "k", 7, 3, 12)
	wantDo(t, m, op(api.OpCommit, "k", 17), 0, api.ErrHold)
	wantDo(t, m, op(api.OpCommit, "k", 16), 3, api.OK)
	wantDo(t, m, op(api.OpRelease, "k", 16), 0, api.ErrHold)
	wantPeek(t, m, "k", 7, 0, 12)
	wantDone(t, m, op(api.OpHold, "k", 1, 5), 16, 0, api.ErrArg)
	wantDone(t, m, op(api.OpHold, "k", 1, 5), 17, 17, api.OK)
	wantPeek(t, m, "k", 6, 1, 12)
	wantDo(t, m, op(api.OpExpire, "k", 17), 0, api.OK)
	wantPeek(t, m, "k", 7, 0, 12)
	wantAllows(t, m, op(api.OpRead, "k"), api.OK, 6, false)
	wantAllows(t, m, op(api.OpRead, "k"), api.OK, 7, true)
	wantAllows(t, m, op(api.OpDec, "k", 9), api.ErrRights, 0, true)
}

// isRight is the chapter's table, but for the name.
func isRight(o api.Op) bool {
	from := func(least, n int) bool { return least <= n && n <= maxCap }
	switch o.Kind {
	case 1: // OpCreate
		return from(1, o.A) && from(0, o.B)
	case 2, 3: // OpInc, OpDec
		return from(1, o.A) && o.B == 0
	case 4: // OpHold
		return from(1, o.A) && from(1, o.B)
	case 5, 6, 12: // OpCommit, OpRelease, OpExpire
		return o.A > 0 && o.B == 0
	case 7: // OpRead
		return o.A == 0 && o.B == 0
	case 8: // OpTake
		return from(0, o.A) && from(1, o.B)
	case 9: // OpReset
		return from(0, o.A) && o.B == 0
	case 10: // OpRecap
		return from(1, o.A) && o.B == 0
	}
	return false
}

// Of every kind, at the edges of A and B: one that is not right is ErrArg, whether there is a counter or not.
func TestP1602Right(t *testing.T) {
	kinds := []int{math.MinInt, -1, math.MaxInt, 1 << 32, 1<<32 + 1, 1<<32 + 7}
	for kind := range 20 {
		kinds = append(kinds, kind)
	}
	for _, kind := range kinds {
		for _, a := range edges() {
			for _, b := range edges() {
				o := op(kind, "k", a, b)
				none, there := made(t), with(t, 10, 4)
				_, e := none.Do(o, 16)
				_, f := there.Do(o, 16)
				if is := isRight(o); is == (e == api.ErrArg) || is == (f == api.ErrArg) {
					t.Errorf("Do(%+v): %d without a counter, %d with one; it is right: %v", o, e, f, is)
				}
				if f == api.ErrArg {
					wantPeek(t, there, "k", 4, 0, 10)
				}
			}
		}
	}
}

func badNames() []string {
	return []string{
		"", " ", "a b", " a", "a ", "\x7f", "a\x7f", "k\x00", "\x00", "\x1f", "k\t", "k\n", "\u00e9", "k\xff", "\x80", "\xa1",
		"12345678901234567", "123456789012345 ", "123456789012345\u00e9", "12345678901234567890123456789012",
	}
}

func goodNames() []string {
	return []string{"!", "!~!~!~!~!~!~!~!~", "\"", "0", "123456789012345", "1234567890123456", "@", "Z", "\\", "a", "~", "~!"}
}

func TestP1602Names(t *testing.T) {
	right := map[int][2]int{1: {9, 3}, 2: {1, 0}, 3: {1, 0}, 4: {1, 1}, 5: {1, 0}, 6: {1, 0}, 7: {0, 0}, 8: {0, 1}, 9: {1, 0}, 10: {9, 0}, 12: {1, 0}}
	m := made(t)
	for kind, n := range right {
		for _, name := range badNames() {
			wantDone(t, m, op(kind, name, n[0], n[1]), 16, 0, api.ErrArg)
		}
		for _, name := range goodNames() {
			if kind != api.OpCreate {
				wantDone(t, m, op(kind, name, n[0], n[1]), 16, 0, api.ErrNone)
			}
		}
	}
	wantNames(t, m)
	for _, name := range goodNames() {
		wantDo(t, m, op(api.OpCreate, name, 9, 3), 0, api.OK)
		wantPeek(t, m, name, 3, 0, 9)
	}
	wantNames(t, m, goodNames()...)
}

func TestP1602Create(t *testing.T) {
	for _, c := range []struct {
		limit, value int
		err          api.Errno
	}{
		{1, 0, api.OK}, {1, 1, api.OK}, {1, 2, api.ErrCap}, {1, maxCap, api.ErrCap}, {10, 10, api.OK}, {10, 11, api.ErrCap},
		{maxCap, 0, api.OK}, {maxCap, maxCap, api.OK}, {maxCap - 1, maxCap, api.ErrCap}, {maxCap, maxCap + 1, api.ErrArg}, {0, 0, api.ErrArg},
	} {
		m := made(t)
		wantDone(t, m, op(api.OpCreate, "k", c.limit, c.value), 99, 0, c.err)
		if c.err == api.OK {
			wantPeek(t, m, "k", c.value, 0, c.limit)
		} else {
			wantNone(t, m, "k")
			wantNames(t, m)
		}
	}
}

// What is first in the chapter is told first.
func TestP1602Order(t *testing.T) {
	m := with(t, 10, 4)
	wantHold(t, m, 1, 16)
	wantDo(t, m, op(api.OpCreate, "k", 5, maxCap+1), 0, api.ErrArg)
	wantDo(t, m, op(api.OpCreate, "k", 5, 6), 0, api.ErrExists)
	wantDo(t, m, op(api.OpCreate, "j", 5, 6), 0, api.ErrCap)
	wantDone(t, m, op(api.OpHold, "j", 0, 1), 0, 0, api.ErrArg)
	wantDone(t, m, op(api.OpHold, "j", 1, 1), 0, 0, api.ErrNone)
	wantDone(t, m, op(api.OpHold, "k", 4, 1), 0, 0, api.ErrRights)
	wantDone(t, m, op(api.OpHold, "k", 4, 1), 16, 0, api.ErrRights)
	wantDone(t, m, op(api.OpHold, "k", 3, 1), 16, 0, api.ErrArg)
	wantDo(t, m, op(api.OpTake, "k", 2, 9), 0, api.ErrMismatch)
	wantDo(t, m, op(api.OpTake, "k", 3, 9), 0, api.ErrRights)
	wantPeek(t, m, "k", 3, 1, 10)
	wantNames(t, m, "k")
}

func TestP1602IncDec(t *testing.T) {
	m := with(t, 10, 4)
	wantDo(t, m, op(api.OpDec, "k", 5), 0, api.ErrRights)
	wantDo(t, m, op(api.OpDec, "k", 4), 0, api.OK)
	wantPeek(t, m, "k", 0, 0, 10)
	wantDo(t, m, op(api.OpDec, "k", 1), 0, api.ErrRights)
	wantDo(t, m, op(api.OpInc, "k", 11), 0, api.ErrRights)
	wantDo(t, m, op(api.OpInc, "k", 10), 0, api.OK)
	wantDo(t, m, op(api.OpInc, "k", 1), 0, api.ErrRights)
	wantPeek(t, m, "k", 10, 0, 10)
	// What is held is room that is taken, and no value.
	wantHold(t, m, 7, 16)
	wantDo(t, m, op(api.OpDec, "k", 4), 0, api.ErrRights)
	wantDo(t, m, op(api.OpDec, "k", 2), 0, api.OK)
	wantDo(t, m, op(api.OpInc, "k", 3), 0, api.ErrRights)
	wantDo(t, m, op(api.OpInc, "k", 2), 0, api.OK)
	wantPeek(t, m, "k", 3, 7, 10)
}

func TestP1602Greatest(t *testing.T) {
	m := with(t, maxCap, 0)
	wantDo(t, m, op(api.OpInc, "k", maxCap), 0, api.OK)
	wantDo(t, m, op(api.OpInc, "k", maxCap), 0, api.ErrRights)
	wantDone(t, m, op(api.OpHold, "k", maxCap, maxCap), math.MaxInt, math.MaxInt, api.OK)
	wantPeek(t, m, "k", 0, maxCap, maxCap)
	wantDo(t, m, op(api.OpReset, "k", maxCap), 0, api.ErrCap)
	wantDo(t, m, op(api.OpRecap, "k", maxCap-1), 0, api.ErrCap)
	wantDo(t, m, op(api.OpRecap, "k", maxCap), maxCap, api.OK)
	wantDo(t, m, op(api.OpRelease, "k", math.MaxInt), maxCap, api.OK)
	wantDo(t, m, op(api.OpTake, "k", maxCap, maxCap), maxCap, api.OK)
	wantDo(t, m, op(api.OpReset, "k", maxCap), maxCap, api.OK)
	wantPeek(t, m, "k", maxCap, 0, maxCap)
}

// A hold's number is any from 1 on, and of one counter: it comes there once, whatever has become of the hold.
func TestP1602HoldNumbers(t *testing.T) {
	m := with(t, 100, 50)
	wantDo(t, m, op(api.OpCreate, "j", 100, 50), 0, api.OK)
	for _, number := range []int{math.MinInt, -1 << 40, -16, -1, 0} {
		wantDone(t, m, op(api.OpHold, "k", 1, 1), number, 0, api.ErrArg)
	}
	numbers := []int{1, 2, 15, 16, 1 << 32, 1<<32 + 1, maxCap + 1, math.MaxInt}
	for _, number := range numbers {
		wantHold(t, m, 2, number)
	}
	for i, number := range numbers {
		wantDone(t, m, op(api.OpHold, "k", 1, 1), number, 0, api.ErrArg)
		kind := []int{api.OpCommit, api.OpRelease, api.OpExpire}[i%3]
		wantDo(t, m, op(kind, "k", number), []int{2, 2, 0}[i%3], api.OK)
		wantDone(t, m, op(api.OpHold, "k", 1, 1), number, 0, api.ErrArg)
		for _, again := range []int{api.OpCommit, api.OpRelease, api.OpExpire} {
			wantDo(t, m, op(again, "k", number), 0, api.ErrHold)
			wantDo(t, m, op(again, "j", number), 0, api.ErrHold)
		}
	}
	wantPeek(t, m, "k", 44, 0, 100)
	for _, number := range numbers {
		wantDone(t, m, op(api.OpHold, "j", 3, 1), number, number, api.OK)
	}
	wantPeek(t, m, "j", 26, 24, 100)
}

// A hold that is refused uses up no number.
func TestP1602HoldRefused(t *testing.T) {
	m := with(t, 10, 4)
	wantDone(t, m, op(api.OpHold, "k", 5, 1), 7, 0, api.ErrRights)
	wantDo(t, m, op(api.OpCommit, "k", 7), 0, api.ErrHold)
	wantDone(t, m, op(api.OpHold, "k", 4, 0), 7, 0, api.ErrArg)
	wantDone(t, m, op(api.OpHold, "j", 4, 1), 7, 0, api.ErrNone)
	wantPeek(t, m, "k", 4, 0, 10)
	wantDone(t, m, op(api.OpHold, "k", 4, maxCap), 7, 7, api.OK)
	wantPeek(t, m, "k", 0, 4, 10)
}

// Only an OpHold looks at the number that it is handed.
func TestP1602NumberOfOthers(t *testing.T) {
	for _, number := range []int{math.MinInt, -1, 0, 1, 16, math.MaxInt} {
		m := made(t)
		wantDone(t, m, op(api.OpCreate, "k", 10, 8), number, 0, api.OK)
		wantHold(t, m, 2, 16)
		wantHold(t, m, 1, 32)
		wantHold(t, m, 1, 48)
		for _, c := range []struct{ kind, a, b, answer int }{
			{api.OpInc, 1, 0, 0}, {api.OpDec, 1, 0, 0}, {api.OpCommit, 16, 0, 2}, {api.OpRelease, 32, 0, 1}, {api.OpExpire, 48, 0, 0},
			{api.OpRead, 0, 0, 6}, {api.OpTake, 6, 1, 6}, {api.OpReset, 9, 0, 9}, {api.OpRecap, 11, 0, 11},
		} {
			wantDone(t, m, op(c.kind, "k", c.a, c.b), number, c.answer, api.OK)
		}
		wantPeek(t, m, "k", 9, 0, 11)
		wantHold(t, m, 1, 64)
	}
}

func TestP1602Ends(t *testing.T) {
	m := with(t, 20, 10)
	for i, amount := range []int{1, 2, 3, 4} {
		wantHold(t, m, amount, 16*(i+1))
	}
	wantPeek(t, m, "k", 0, 10, 20)
	wantDo(t, m, op(api.OpCommit, "k", 32), 2, api.OK)
	wantPeek(t, m, "k", 0, 8, 20)
	wantDo(t, m, op(api.OpRelease, "k", 48), 3, api.OK)
	wantPeek(t, m, "k", 3, 5, 20)
	wantDo(t, m, op(api.OpExpire, "k", 64), 0, api.OK)
	wantPeek(t, m, "k", 7, 1, 20)
	for _, number := range []int{1, 15, 17, 80, 32, 48, 64, 16 + 1<<32, math.MaxInt} {
		for _, kind := range []int{api.OpCommit, api.OpRelease, api.OpExpire} {
			wantDo(t, m, op(kind, "k", number), 0, api.ErrHold)
		}
	}
	wantPeek(t, m, "k", 7, 1, 20)
	wantDo(t, m, op(api.OpCommit, "k", 16), 1, api.OK)
	wantPeek(t, m, "k", 7, 0, 20)
}

func TestP1602Exact(t *testing.T) {
	m := with(t, 10, 6)
	wantHold(t, m, 2, 16)
	wantDo(t, m, op(api.OpRead, "k"), 4, api.OK)
	wantDo(t, m, op(api.OpTake, "k", 4, 4), 4, api.OK)
	wantPeek(t, m, "k", 0, 2, 10)
	wantDo(t, m, op(api.OpTake, "k", 0, 1), 0, api.ErrRights)
	wantDo(t, m, op(api.OpTake, "k", 2, 1), 0, api.ErrMismatch)
	wantDo(t, m, op(api.OpRead, "k"), 0, api.OK)
	wantDo(t, m, op(api.OpReset, "k", 9), 0, api.ErrCap)
	wantDo(t, m, op(api.OpReset, "k", 8), 8, api.OK)
	wantPeek(t, m, "k", 8, 2, 10)
	wantDo(t, m, op(api.OpReset, "k", 0), 0, api.OK)
	wantPeek(t, m, "k", 0, 2, 10)
	wantDo(t, m, op(api.OpRecap, "k", 1), 0, api.ErrCap)
	wantDo(t, m, op(api.OpRecap, "k", 2), 2, api.OK)
	wantDo(t, m, op(api.OpInc, "k", 1), 0, api.ErrRights)
	wantDo(t, m, op(api.OpRecap, "k", 5), 5, api.OK)
	wantDo(t, m, op(api.OpInc, "k", 3), 0, api.OK)
	wantDo(t, m, op(api.OpRecap, "k", 4), 0, api.ErrCap)
	wantPeek(t, m, "k", 3, 2, 5)
}

// Each counter is by itself.
func TestP1602TwoCounters(t *testing.T) {
	m := with(t, 10, 4)
	wantDo(t, m, op(api.OpCreate, "K", 3, 1), 0, api.OK)
	wantHold(t, m, 2, 16)
	wantDo(t, m, op(api.OpInc, "K", 2), 0, api.OK)
	wantDo(t, m, op(api.OpRecap, "K", 7), 7, api.OK)
	wantPeek(t, m, "k", 2, 2, 10)
	wantPeek(t, m, "K", 3, 0, 7)
	wantDo(t, m, op(api.OpCommit, "K", 16), 0, api.ErrHold)
	wantDo(t, m, op(api.OpCommit, "k", 16), 2, api.OK)
}

func TestP1604Names(t *testing.T) {
	m := made(t)
	var list []string
	for i := range 300 {
		name := fmt.Sprint("c", i*7919%300)
		wantDo(t, m, op(api.OpCreate, name, 10, i%10), 0, api.OK)
		list = append(list, name)
	}
	slices.Sort(list)
	wantNames(t, m, list...)
	// What is refused, and what is not about a counter, makes no name known.
	wantDo(t, m, op(api.OpCreate, "z", 1, 2), 0, api.ErrCap)
	wantDo(t, m, op(api.OpRead, "y"), 0, api.ErrNone)
	wantNone(t, m, "x")
	wantNames(t, m, list...)
}

// What has been is told at once, and again.
func TestP1604Peek(t *testing.T) {
	m := with(t, 10, 4)
	for _, name := range append(badNames(), "kk", "K", "j", "k\x00", "0") {
		wantNone(t, m, name)
	}
	for range 2 {
		wantPeek(t, m, "k", 4, 0, 10)
	}
	wantDo(t, m, op(api.OpDec, "k", 4), 0, api.OK)
	wantPeek(t, m, "k", 0, 0, 10)
}

// A counter with very many holds, and very many that are gone, is as quick as another one.
func TestP1602Many(t *testing.T) {
	m := with(t, maxCap, maxCap)
	const many = 200000
	for number := 1; number <= many; number++ {
		if _, e := m.Do(op(api.OpHold, "k", number, 1), number); e != api.OK {
			t.Fatal(e)
		}
	}
	wantPeek(t, m, "k", maxCap-many*(many+1)/2, many*(many+1)/2, maxCap)
	for number := many; number >= 1; number-- {
		if n, e := m.Do(op(api.OpCommit, "k", number), 0); e != api.OK || n != number {
			t.Fatal(n, e)
		}
	}
	wantPeek(t, m, "k", maxCap-many*(many+1)/2, 0, maxCap)
	wantDone(t, m, op(api.OpHold, "k", 1, 1), many/2, 0, api.ErrArg)
	wantHold(t, m, 1, many+1)
}
