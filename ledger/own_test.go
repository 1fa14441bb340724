package ledger_test

import (
	"testing"

	"sluice/api"
)

func TestP610TwoLedgers(t *testing.T) {
	one, two := made(t, 10), made(t, 10)
	empty := state{limit: 10}
	want(t, "In", one.In(rights(4, 5)), api.OK)
	wantState(t, "the other", two, empty)
	want(t, "Lock", one.Lock(2), api.OK)
	want(t, "Dec", one.Dec(1), api.OK)
	want(t, "Set", one.Set(3), api.OK)
	want(t, "Recap", one.Recap(12, 1), api.OK)
	hear(t, one, 13, 2, true, state{3, 6, 2, 13, 2})
	wantState(t, "the other", two, empty)
	after(t, "In at the other", two, two.In(rights(10, 0)), api.OK, state{10, 0, 0, 10, 0})
	hear(t, two, 11, 1, true, state{10, 0, 0, 11, 1})
	wantState(t, "the first", one, state{3, 6, 2, 13, 2})
	two.All()
	wantState(t, "the first", one, state{3, 6, 2, 13, 2})
	wantState(t, "a third", made(t, 10), empty)
}

// What All and Rights tell is the caller's: a change of it does not reach the ledger.
func TestP610Told(t *testing.T) {
	l := at(t, state{4, 5, 1, 20, 0})
	r := l.Rights()
	r.Down, r.Up = 77, 77
	wantState(t, "a ledger that was looked at", l, state{4, 5, 1, 20, 0})
	r = l.All()
	r.Down, r.Up = 77, 77
	want(t, "In", l.In(rights(1, 2)), api.OK)
	wantState(t, "a ledger that was emptied", l, state{1, 2, 1, 20, 0})
}
