package ledger_test

import (
	"math"
	"testing"

	"sluice/api"
	"sluice/ledger"
)

func TestP601New(t *testing.T) {
	for _, limit := range []int{1, 2, 10, 1 << 31, 1 << 32, maxCap - 1, maxCap} {
		wantState(t, "New", made(t, limit), state{limit: limit})
	}
}

func TestP601Refused(t *testing.T) {
	for _, limit := range noAmounts {
		if l, e := ledger.New(limit); l != nil || e != api.ErrArg {
			t.Errorf("New(%d): %v, %d, want nil, %d", limit, l, e, api.ErrArg)
		}
	}
}

func TestP602In(t *testing.T) {
	l := made(t, 10)
	after(t, "In(0, 0)", l, l.In(rights(0, 0)), api.OK, state{0, 0, 0, 10, 0})
	after(t, "In(3, 0)", l, l.In(rights(3, 0)), api.OK, state{3, 0, 0, 10, 0})
	after(t, "In(0, 2)", l, l.In(rights(0, 2)), api.OK, state{3, 2, 0, 10, 0})
	after(t, "In(1, 4)", l, l.In(rights(1, 4)), api.OK, state{4, 6, 0, 10, 0})
	after(t, "In(0, 0)", l, l.In(rights(0, 0)), api.OK, state{4, 6, 0, 10, 0})
}

// All that is there takes room, what is held too.
func TestP602Room(t *testing.T) {
	for _, s := range []state{{0, 0, 0, 6, 0}, {2, 0, 0, 8, 0}, {0, 2, 0, 8, 0}, {0, 0, 2, 8, 0}, {1, 2, 3, 12, 4}, {maxCap - 6, 0, 0, maxCap, 1}, {1, 1, maxCap - 8, maxCap, 1}} {
		for _, r := range []api.Rights{rights(7, 0), rights(0, 7), rights(6, 1), rights(1, 6), rights(4, 3), rights(7, 7)} {
			l := at(t, s)
			after(t, "In beyond the cap", l, l.In(r), api.ErrCap, s)
		}
		for _, r := range []api.Rights{rights(6, 0), rights(0, 6), rights(2, 4)} {
			l := at(t, s)
			after(t, "In up to the cap", l, l.In(r), api.OK, state{s.down + r.Down, s.up + r.Up, s.held, s.limit, s.recaps})
		}
	}
}

func TestP602Negative(t *testing.T) {
	s := state{2, 3, 1, 9, 0}
	l := at(t, s)
	for _, r := range []api.Rights{
		rights(-1, 0), rights(0, -1), rights(-1, -1), rights(-1, 1), rights(1, -1), rights(-2, 0), rights(4, -1),
		rights(math.MinInt, 0), rights(0, math.MinInt), rights(math.MinInt, math.MinInt), rights(math.MinInt, math.MaxInt),
		rights(math.MaxInt, math.MinInt), rights(-1, math.MaxInt), rights(99, -1), rights(-1, 99),
	} {
		after(t, "In", l, l.In(r), api.ErrArg, s)
	}
}

// Sums that would wrap are none that the cap has room for.
func TestP602Great(t *testing.T) {
	for _, s := range []state{{0, 0, 0, 1, 0}, {2, 3, 1, 9, 0}, {0, 0, 0, maxCap, 0}, {maxCap, 0, 0, maxCap, 0}, {0, 0, 5, maxCap, 0}} {
		l := at(t, s)
		for _, r := range []api.Rights{
			rights(math.MaxInt, math.MaxInt), rights(math.MaxInt, 1), rights(1, math.MaxInt), rights(math.MaxInt, 0), rights(0, math.MaxInt),
			rights(1<<62, 1<<62), rights(math.MaxInt, 2), rights(maxCap+1, 0), rights(0, maxCap+1), rights(maxCap, maxCap), rights(maxCap, 1), rights(1, maxCap),
		} {
			after(t, "In", l, l.In(r), api.ErrCap, s)
		}
	}
	l := made(t, maxCap)
	after(t, "In", l, l.In(rights(maxCap, 0)), api.OK, state{maxCap, 0, 0, maxCap, 0})
	l = made(t, maxCap)
	after(t, "In", l, l.In(rights(1, maxCap-1)), api.OK, state{1, maxCap - 1, 0, maxCap, 0})
}

func TestP603Out(t *testing.T) {
	l := at(t, state{5, 4, 3, 20, 2})
	after(t, "Out(0, 0)", l, l.Out(rights(0, 0)), api.OK, state{5, 4, 3, 20, 2})
	after(t, "Out(1, 2)", l, l.Out(rights(1, 2)), api.OK, state{4, 2, 3, 20, 2})
	after(t, "Out(4, 0)", l, l.Out(rights(4, 0)), api.OK, state{0, 2, 3, 20, 2})
	after(t, "Out(0, 2)", l, l.Out(rights(0, 2)), api.OK, state{0, 0, 3, 20, 2})
	after(t, "Out(0, 0)", l, l.Out(rights(0, 0)), api.OK, state{0, 0, 3, 20, 2})
}

// Of each kind there must be enough: neither the other kind nor what is held counts.
func TestP603OutRefused(t *testing.T) {
	s := state{2, 3, 9, 20, 0}
	l := at(t, s)
	for _, r := range []api.Rights{
		rights(3, 0), rights(0, 4), rights(3, 3), rights(2, 4), rights(3, 4), rights(5, 0), rights(0, 5),
		rights(math.MaxInt, 0), rights(0, math.MaxInt), rights(math.MaxInt, math.MaxInt),
	} {
		after(t, "Out", l, l.Out(r), api.ErrRights, s)
	}
	for _, r := range []api.Rights{
		rights(-1, 0), rights(0, -1), rights(-1, -1), rights(1, -1), rights(-1, 1), rights(-1, 9), rights(9, -1),
		rights(math.MinInt, 0), rights(0, math.MinInt), rights(math.MinInt, math.MaxInt), rights(math.MaxInt, math.MinInt),
	} {
		after(t, "Out", l, l.Out(r), api.ErrArg, s)
	}
	after(t, "Out of all", l, l.Out(rights(2, 3)), api.OK, state{0, 0, 9, 20, 0})
}

func TestP603All(t *testing.T) {
	for _, s := range []state{{0, 0, 0, 1, 0}, {3, 0, 0, 3, 0}, {0, 3, 1, 4, 2}, {0, 0, 2, 4, 0}, {5, 6, 7, 20, 1}, {maxCap - 1, 1, 0, maxCap, 0}} {
		l := at(t, s)
		gone := state{0, 0, s.held, s.limit, s.recaps}
		for _, wanted := range []api.Rights{rights(s.down, s.up), rights(0, 0)} {
			if r := l.All(); r != wanted {
				t.Errorf("All of %+v: %v, want %v", s, r, wanted)
			}
			wantState(t, "All", l, gone)
		}
	}
}

// turns: each call that turns rights, how many of 5, 6, 7 there are to be turned, and the state with so many of them
// turned.
var turns = []struct {
	name string
	call func(l *ledger.Ledger, k int) api.Errno
	most int
	then func(k int) state
}{
	{"Dec", (*ledger.Ledger).Dec, 5, func(k int) state { return state{5 - k, 6 + k, 7, 30, 3} }},
	{"Inc", (*ledger.Ledger).Inc, 6, func(k int) state { return state{5 + k, 6 - k, 7, 30, 3} }},
	{"Lock", (*ledger.Ledger).Lock, 5, func(k int) state { return state{5 - k, 6, 7 + k, 30, 3} }},
	{"Free", (*ledger.Ledger).Free, 7, func(k int) state { return state{5 + k, 6, 7 - k, 30, 3} }},
	{"Burn", (*ledger.Ledger).Burn, 7, func(k int) state { return state{5, 6 + k, 7 - k, 30, 3} }},
}

func TestP604Turns(t *testing.T) {
	for _, c := range turns {
		for k := 1; k <= c.most; k++ {
			l := at(t, c.then(0))
			after(t, c.name, l, c.call(l, k), api.OK, c.then(k))
		}
	}
}

func TestP604TooMany(t *testing.T) {
	for _, c := range turns {
		l := at(t, c.then(0))
		for _, k := range []int{c.most + 1, c.most + 2, 18, 30, 31, 1 << 32, 1<<32 + 1, maxCap - 1, maxCap} {
			after(t, c.name, l, c.call(l, k), api.ErrRights, c.then(0))
		}
		after(t, c.name, l, c.call(l, c.most), api.OK, c.then(c.most))
		after(t, c.name, l, c.call(l, 1), api.ErrRights, c.then(c.most))
	}
}

// ErrArg comes first: where there are rights, and where there are none.
func TestP604NoAmount(t *testing.T) {
	for _, c := range turns {
		full, empty := at(t, c.then(0)), made(t, 1)
		for _, k := range noAmounts {
			after(t, c.name, full, c.call(full, k), api.ErrArg, c.then(0))
			after(t, c.name, empty, c.call(empty, k), api.ErrArg, state{limit: 1})
		}
	}
}

func TestP604AllAtOnce(t *testing.T) {
	l := at(t, state{maxCap, 0, 0, maxCap, 0})
	after(t, "Dec", l, l.Dec(maxCap), api.OK, state{0, maxCap, 0, maxCap, 0})
	after(t, "Inc", l, l.Inc(maxCap), api.OK, state{maxCap, 0, 0, maxCap, 0})
	after(t, "Lock", l, l.Lock(maxCap), api.OK, state{0, 0, maxCap, maxCap, 0})
	after(t, "Free", l, l.Free(maxCap), api.OK, state{maxCap, 0, 0, maxCap, 0})
	after(t, "Lock", l, l.Lock(maxCap), api.OK, state{0, 0, maxCap, maxCap, 0})
	after(t, "Burn", l, l.Burn(maxCap), api.OK, state{0, maxCap, 0, maxCap, 0})
}

func TestP605Set(t *testing.T) {
	s := state{2, 4, 3, 20, 1}
	l := at(t, s)
	for _, down := range []int{0, 6, 1, 5, 2, 2} {
		after(t, "Set", l, l.Set(down), api.OK, state{down, 6 - down, 3, 20, 1})
	}
	// What is held does not count, nor what the cap has room for.
	for _, down := range []int{7, 8, 9, 17, 20, 21, maxCap, maxCap + 1, math.MaxInt} {
		after(t, "Set", l, l.Set(down), api.ErrCap, s)
	}
	for _, down := range []int{-1, -2, -6, -maxCap, math.MinInt} {
		after(t, "Set", l, l.Set(down), api.ErrArg, s)
	}
}

func TestP605SetOfNone(t *testing.T) {
	for _, s := range []state{{0, 0, 0, 5, 0}, {0, 0, 5, 5, 0}, {0, 0, 2, 5, 0}} {
		l := at(t, s)
		after(t, "Set(0)", l, l.Set(0), api.OK, s)
		after(t, "Set(1)", l, l.Set(1), api.ErrCap, s)
		after(t, "Set(-1)", l, l.Set(-1), api.ErrArg, s)
	}
	l := at(t, state{0, maxCap, 0, maxCap, 0})
	after(t, "Set", l, l.Set(maxCap+1), api.ErrCap, state{0, maxCap, 0, maxCap, 0})
	after(t, "Set", l, l.Set(maxCap), api.OK, state{maxCap, 0, 0, maxCap, 0})
}

func TestP606Recap(t *testing.T) {
	for _, c := range []struct {
		from          state
		limit, recaps int
		to            state
	}{
		{state{2, 5, 1, 10, 0}, 10, 1, state{2, 5, 1, 10, 1}},
		{state{2, 5, 1, 10, 0}, 11, 1, state{2, 6, 1, 11, 1}},
		{state{2, 5, 1, 10, 3}, 9, 4, state{2, 4, 1, 9, 4}},
		{state{2, 5, 1, 10, 3}, 5, 99, state{2, 0, 1, 5, 99}},
		{state{0, 9, 0, 10, 3}, 1, 4, state{0, 0, 0, 1, 4}},
		{state{0, 0, 0, 1, 0}, maxCap, math.MaxInt, state{0, maxCap - 1, 0, maxCap, math.MaxInt}},
		{state{0, maxCap, 0, maxCap, 0}, 1, 1, state{0, 1, 0, 1, 1}},
		{state{1, maxCap - 1, 0, maxCap, 7}, 1, 8, state{1, 0, 0, 1, 8}},
		{state{3, 0, 7, 10, 0}, 12, 1, state{3, 2, 7, 12, 1}},
		{state{0, 0, 0, 10, 0}, 10, 1, state{0, 0, 0, 10, 1}},
	} {
		l := at(t, c.from)
		after(t, "Recap", l, l.Recap(c.limit, c.recaps), api.OK, c.to)
	}
}

// So many fewer up rights as the cap is lower there must be, whatever room the cap had.
func TestP606TooLow(t *testing.T) {
	for _, s := range []state{{2, 5, 1, 10, 0}, {0, 5, 0, 10, 4}, {5, 5, 0, 10, 0}, {0, 5, 5, 10, 0}} {
		l := at(t, s)
		for _, limit := range []int{4, 3, 2, 1} {
			after(t, "Recap", l, l.Recap(limit, 5), api.ErrCap, s)
		}
		after(t, "Recap", l, l.Recap(5, 5), api.OK, state{s.down, 0, s.held, 5, 5})
	}
	s := state{0, 0, 0, 10, 0}
	l := at(t, s)
	after(t, "Recap without rights", l, l.Recap(9, 1), api.ErrCap, s)
}

func TestP606NoArg(t *testing.T) {
	s := state{2, 5, 1, 10, 3}
	l := at(t, s)
	for _, limit := range noAmounts {
		for _, recaps := range []int{4, 3, math.MaxInt, math.MinInt} {
			after(t, "Recap to no cap", l, l.Recap(limit, recaps), api.ErrArg, s)
		}
	}
	for _, recaps := range []int{3, 2, 1, 0, -1, -4, math.MinInt} {
		for _, limit := range []int{10, 12, 9, 1, maxCap} {
			after(t, "Recap that is no later one", l, l.Recap(limit, recaps), api.ErrArg, s)
		}
	}
	l = made(t, 10)
	after(t, "Recap that is no later one", l, l.Recap(10, 0), api.ErrArg, state{limit: 10})
	after(t, "Recap that is no later one", l, l.Recap(10, -1), api.ErrArg, state{limit: 10})
}

// A cap that was set for the last time stays.
func TestP606Last(t *testing.T) {
	l := at(t, state{1, 1, 1, 5, 0})
	s := state{1, 2, 1, 6, math.MaxInt}
	after(t, "Recap", l, l.Recap(6, math.MaxInt), api.OK, s)
	after(t, "Recap", l, l.Recap(7, math.MaxInt), api.ErrArg, s)
	after(t, "Recap", l, l.Recap(7, math.MinInt), api.ErrArg, s)
	if l.Hear(7, math.MaxInt) || l.Hear(7, math.MinInt) {
		t.Errorf("Hear behind the last cap: true")
	}
	wantState(t, "Hear", l, s)
}

func hear(t *testing.T, l *ledger.Ledger, limit, recaps int, wanted bool, s state) {
	t.Helper()
	if got := l.Hear(limit, recaps); got != wanted {
		t.Errorf("Hear(%d, %d): %v, want %v", limit, recaps, got, wanted)
	}
	wantState(t, "Hear", l, s)
}

func TestP607Hear(t *testing.T) {
	l := at(t, state{2, 3, 1, 10, 0})
	hear(t, l, 10, 1, true, state{2, 3, 1, 10, 1})
	hear(t, l, 12, 2, true, state{2, 3, 1, 12, 2})
	hear(t, l, 7, 5, true, state{2, 3, 1, 7, 5})
	hear(t, l, 6, 6, true, state{2, 3, 1, 6, 6})
	hear(t, l, maxCap, 1<<62, true, state{2, 3, 1, maxCap, 1 << 62})
	hear(t, l, 6, math.MaxInt, true, state{2, 3, 1, 6, math.MaxInt})
	l = at(t, state{0, 0, 0, maxCap, 0})
	hear(t, l, 1, 1, true, state{0, 0, 0, 1, 1})
}

func TestP607NotHeard(t *testing.T) {
	s := state{2, 3, 1, 10, 3}
	l := at(t, s)
	for _, limit := range noAmounts {
		hear(t, l, limit, 4, false, s)
		hear(t, l, limit, math.MaxInt, false, s)
	}
	for _, recaps := range []int{3, 2, 0, -1, -4, math.MinInt} {
		hear(t, l, 10, recaps, false, s)
		hear(t, l, 20, recaps, false, s)
		hear(t, l, 6, recaps, false, s)
	}
	for _, limit := range []int{5, 4, 3, 2, 1} {
		hear(t, l, limit, 4, false, s)
	}
	hear(t, made(t, 10), 10, 0, false, state{limit: 10})
	hear(t, made(t, 10), 10, -1, false, state{limit: 10})
}

// Each kind of rights takes room in the cap that is heard of.
func TestP607Room(t *testing.T) {
	for _, s := range []state{{4, 0, 0, 9, 0}, {0, 4, 0, 9, 0}, {0, 0, 4, 9, 0}, {1, 1, 2, 9, 0}} {
		hear(t, at(t, s), 3, 1, false, s)
		hear(t, at(t, s), 4, 1, true, state{s.down, s.up, s.held, 4, 1})
	}
}

// The cap that was heard of is the one by which In and Recap go.
func TestP607Counts(t *testing.T) {
	l := at(t, state{2, 3, 1, 10, 0})
	hear(t, l, 7, 1, true, state{2, 3, 1, 7, 1})
	after(t, "In", l, l.In(rights(1, 1)), api.ErrCap, state{2, 3, 1, 7, 1})
	after(t, "In", l, l.In(rights(1, 0)), api.OK, state{3, 3, 1, 7, 1})
	hear(t, l, 9, 2, true, state{3, 3, 1, 9, 2})
	after(t, "In", l, l.In(rights(0, 2)), api.OK, state{3, 5, 1, 9, 2})
	after(t, "Recap", l, l.Recap(8, 2), api.ErrArg, state{3, 5, 1, 9, 2})
	after(t, "Recap", l, l.Recap(8, 3), api.OK, state{3, 4, 1, 8, 3})
	hear(t, l, 9, 3, false, state{3, 4, 1, 8, 3})
}

// Looking changes nothing.
func TestP608Looks(t *testing.T) {
	l := made(t, 30)
	want(t, "In", l.In(rights(7, 9)), api.OK)
	want(t, "Lock", l.Lock(2), api.OK)
	want(t, "Recap", l.Recap(31, 4), api.OK)
	for range 3 {
		if limit, recaps := l.Cap(); limit != 31 || recaps != 4 {
			t.Errorf("Cap: %d, %d", limit, recaps)
		}
		if r := l.Rights(); r != rights(5, 10) {
			t.Errorf("Rights: %v", r)
		}
		if held := l.Held(); held != 2 {
			t.Errorf("Held: %d", held)
		}
	}
}

func TestP608Example(t *testing.T) {
	l := made(t, 10)
	after(t, "In(7, 4)", l, l.In(rights(7, 4)), api.ErrCap, state{0, 0, 0, 10, 0})
	after(t, "In(-1, 0)", l, l.In(rights(-1, 0)), api.ErrArg, state{0, 0, 0, 10, 0})
	after(t, "In(6, 3)", l, l.In(rights(6, 3)), api.OK, state{6, 3, 0, 10, 0})
	after(t, "Dec(7)", l, l.Dec(7), api.ErrRights, state{6, 3, 0, 10, 0})
	after(t, "Dec(0)", l, l.Dec(0), api.ErrArg, state{6, 3, 0, 10, 0})
	after(t, "Dec(2)", l, l.Dec(2), api.OK, state{4, 5, 0, 10, 0})
	after(t, "Inc(6)", l, l.Inc(6), api.ErrRights, state{4, 5, 0, 10, 0})
	after(t, "Inc(1)", l, l.Inc(1), api.OK, state{5, 4, 0, 10, 0})
	after(t, "Lock(3)", l, l.Lock(3), api.OK, state{2, 4, 3, 10, 0})
	after(t, "Burn(1)", l, l.Burn(1), api.OK, state{2, 5, 2, 10, 0})
	after(t, "Free(1)", l, l.Free(1), api.OK, state{3, 5, 1, 10, 0})
	after(t, "Free(2)", l, l.Free(2), api.ErrRights, state{3, 5, 1, 10, 0})
	after(t, "Out(4, 0)", l, l.Out(rights(4, 0)), api.ErrRights, state{3, 5, 1, 10, 0})
	after(t, "Out(1, 1)", l, l.Out(rights(1, 1)), api.OK, state{2, 4, 1, 10, 0})
	after(t, "Set(7)", l, l.Set(7), api.ErrCap, state{2, 4, 1, 10, 0})
	after(t, "Set(6)", l, l.Set(6), api.OK, state{6, 0, 1, 10, 0})
	after(t, "Set(0)", l, l.Set(0), api.OK, state{0, 6, 1, 10, 0})
	after(t, "Recap(3, 1)", l, l.Recap(3, 1), api.ErrCap, state{0, 6, 1, 10, 0})
	after(t, "Recap(4, 0)", l, l.Recap(4, 0), api.ErrArg, state{0, 6, 1, 10, 0})
	after(t, "Recap(4, 5)", l, l.Recap(4, 5), api.OK, state{0, 0, 1, 4, 5})
	hear(t, l, 9, 5, false, state{0, 0, 1, 4, 5})
	hear(t, l, 0, 6, false, state{0, 0, 1, 4, 5})
	hear(t, l, 9, 6, true, state{0, 0, 1, 9, 6})
	after(t, "In(8, 1)", l, l.In(rights(8, 1)), api.ErrCap, state{0, 0, 1, 9, 6})
	after(t, "In(8, 0)", l, l.In(rights(8, 0)), api.OK, state{8, 0, 1, 9, 6})
	if r := l.All(); r != rights(8, 0) {
		t.Errorf("All: %v", r)
	}
	wantState(t, "All", l, state{0, 0, 1, 9, 6})
}
