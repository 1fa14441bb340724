package epoch_test

import (
	"math"
	"testing"

	"sluice/api"
	"sluice/epoch"
)

func TestP1101New(t *testing.T) {
	for replicas := 2; replicas <= 16; replicas++ {
		for me := range replicas {
			m := made(t, me, replicas)
			wantNothing(t, m)
			wantActs(t, "Finish", m.Finish())
			wantLooked(t, m, 1, 1, 0)
			wantBegun(t, m, 5, 4, 0, false, mark(ep(1, me)))
		}
	}
}

func TestP1101Refused(t *testing.T) {
	for _, c := range []struct {
		me, replicas int
		err          api.Errno
	}{
		{0, 1, api.ErrArg}, {0, 0, api.ErrArg}, {0, -1, api.ErrArg}, {0, 17, api.ErrArg}, {16, 17, api.ErrArg},
		{-1, 1, api.ErrArg}, {1, 1, api.ErrArg}, {99, 17, api.ErrArg}, {-1, 17, api.ErrArg}, {0, 1<<32 + 3, api.ErrArg}, {0, 256 + 3, api.ErrArg},
		{0, math.MinInt, api.ErrArg}, {0, math.MaxInt, api.ErrArg}, {math.MaxInt, math.MaxInt, api.ErrArg}, {math.MinInt, math.MinInt, api.ErrArg},
		{3, 3, api.ErrReplica}, {-1, 2, api.ErrReplica}, {-1, 3, api.ErrReplica}, {2, 2, api.ErrReplica}, {16, 16, api.ErrReplica},
		{-1, 16, api.ErrReplica}, {1 << 32, 3, api.ErrReplica}, {256, 3, api.ErrReplica},
		{math.MinInt, 3, api.ErrReplica}, {math.MaxInt, 3, api.ErrReplica},
	} {
		if m, e := epoch.New(c.me, c.replicas); m != nil || e != c.err {
			t.Errorf("New(%d, %d): %v, %d, want nil, %d", c.me, c.replicas, m, e, c.err)
		}
	}
}

// The chapter's own example.
func TestP1102Example(t *testing.T) {
	m := made(t, 1, 3)
	wantBegun(t, m, 10, 4, 0, false, mark(ep(1, 1)))
	wantLive(t, m, ep(1, 1), ep(1, 1))
	wantRefused(t, m, 10, 4, 0, api.ErrFrozen)
	wantRefused(t, m, 0, 4, 0, api.ErrArg)
	report(t, m, 0, ep(1, 1), 2)
	report(t, m, 2, ep(1, 0), 9)
	report(t, m, 1, ep(1, 1), 9)
	wantOwn(t, m, ep(1, 1), 2, false)
	wantLooked(t, m, 10, 7, 0)
	wantLooked(t, m, 10, 7, 1, decide(ep(1, 1)))
	wantHeard(t, m, ep(1, 0))
	wantLive(t, m, ep(1, 1), ep(1, 0), ep(1, 1))
	wantHeard(t, m, ep(1, 2), giveUp(ep(1, 1), ep(1, 2))...)
	wantLive(t, m, ep(1, 2), ep(1, 0), ep(1, 2))
	wantEnded(t, m, ep(1, 2), none, yield(ep(1, 0)))
	for _, e := range []api.Epoch{ep(1, 2), ep(0, 2), ep(5, 3), ep(9, 1)} {
		wantHeard(t, m, e)
		wantLive(t, m, ep(1, 0), ep(1, 0))
	}
	wantEnded(t, m, ep(1, 0), ep(3, 2), yield(ep(3, 2)))
	wantLive(t, m, ep(3, 2), ep(3, 2))
	wantEnded(t, m, ep(4, 2), none, thaw(1))
	wantNothing(t, m)
	wantBegun(t, m, 10, 10, 0, false, decide(ep(5, 1)))
	wantLive(t, m, ep(5, 1), ep(5, 1))
	wantActs(t, "Finish", m.Finish(), thaw(1))
	wantActs(t, "Finish", m.Finish())
	wantBegun(t, m, 10, 10, 0, true, mark(ep(6, 1)))
	wantLive(t, m, ep(6, 1), ep(6, 1))
}

// Of equal rounds the greater rank is higher, of all others the greater round.
func TestP1102Target(t *testing.T) {
	m := made(t, 3, 16)
	wantHeard(t, m, ep(7, 5), yield(ep(7, 5)))
	wantHeard(t, m, ep(7, 4))
	wantHeard(t, m, ep(6, 15))
	wantLive(t, m, ep(7, 5), ep(7, 4), ep(7, 5), ep(6, 15))
	wantHeard(t, m, ep(7, 6), yield(ep(7, 6)))
	wantHeard(t, m, ep(8, 0), yield(ep(8, 0)))
	wantHeard(t, m, ep(maxRound, 0), yield(ep(maxRound, 0)))
	wantHeard(t, m, ep(maxRound, 15), yield(ep(maxRound, 15)))
	wantLive(t, m, ep(maxRound, 15), ep(maxRound, 0), ep(7, 4), ep(7, 5), ep(7, 6), ep(maxRound, 15))
	wantOwn(t, m, none, 0, false)
}

func TestP1102All(t *testing.T) {
	for replicas := 2; replicas <= 16; replicas++ {
		for me := range replicas {
			m := made(t, me, replicas)
			own := ep(1, me)
			wantBegun(t, m, 100, 1, 0, false, mark(own))
			sum, left := 0, replicas-1
			for from := range replicas {
				wantOwn(t, m, own, sum, left == 0)
				report(t, m, from, own, from+1)
				if from != me {
					sum += from + 1
					left--
				}
			}
			wantOwn(t, m, own, sum, true)
			m.Finish()
			wantOwn(t, m, none, 0, false)
		}
	}
}

func TestP1103Round(t *testing.T) {
	for _, c := range []struct {
		ahead func(m *epoch.Machine)
		round int
	}{
		{func(m *epoch.Machine) {}, 1},
		{func(m *epoch.Machine) { m.End(ep(4, 0), none) }, 5},
		{func(m *epoch.Machine) { m.End(ep(4, 2), none) }, 5},
		{func(m *epoch.Machine) { m.End(ep(9, 2), none); m.End(ep(4, 0), none) }, 10},
		{func(m *epoch.Machine) { m.End(ep(4, 0), none); m.End(ep(9, 2), none) }, 10},
		// what is none, or of the rank me, was told to nobody
		{func(m *epoch.Machine) {
			m.End(ep(4, 3), ep(9, 1))
			m.End(ep(8, 1), ep(maxRound+1, 0))
			m.Hear(ep(7, 1))
		}, 1},
		// of what was heard and is over
		{func(m *epoch.Machine) { m.Hear(ep(3, 0)); m.End(ep(3, 0), none) }, 4},
		// of one's own
		{func(m *epoch.Machine) { m.Begin(10, 1, 0, false); m.Finish() }, 2},
		{func(m *epoch.Machine) { m.Begin(10, 1, 0, false); m.Hear(ep(1, 2)); m.End(ep(1, 2), none) }, 2},
		{func(m *epoch.Machine) { m.End(ep(maxRound-1, 0), none) }, maxRound},
	} {
		m := made(t, 1, 3)
		c.ahead(m)
		own := ep(c.round, 1)
		wantBegun(t, m, 10, 4, 0, false, mark(own))
		wantLive(t, m, own, own)
		wantOwn(t, m, own, 0, false)
	}
}

func TestP1103Arg(t *testing.T) {
	m := made(t, 0, 2)
	check := func() {
		for _, n := range wrongCounts() {
			wantRefused(t, m, n, 0, 0, api.ErrArg)
			wantRefused(t, m, 10, n, 0, api.ErrArg)
			wantRefused(t, m, 10, 0, n, api.ErrArg)
			wantRefused(t, m, n, n, n, api.ErrArg)
			wantRefused(t, m, 10, n, 10-n, api.ErrArg)
		}
		wantRefused(t, m, 0, 0, 0, api.ErrArg)
		wantRefused(t, m, 0, 4, 0, api.ErrArg)
	}
	check()
	wantNothing(t, m)
	wantHeard(t, m, ep(3, 1), yield(ep(3, 1)))
	check()
	wantRefused(t, m, 10, 0, 0, api.ErrFrozen)
	wantEnded(t, m, ep(maxRound, 1), none, thaw(0))
	check()
	wantRefused(t, m, 10, 0, 0, api.ErrLong)
}

func TestP1103Edges(t *testing.T) {
	for _, c := range []struct {
		limit, rights, held int
		all                 bool
	}{
		{1, 1, 0, true}, {1, 0, 1, true}, {maxCap, maxCap, 0, true}, {maxCap, 0, maxCap, true}, {maxCap, 1, maxCap - 1, true}, {10, 7, 3, true},
		{1, 0, 0, false}, {1, 1, 1, false}, {1, maxCap, maxCap, false}, {maxCap, maxCap, maxCap, false}, {maxCap, 0, 0, false},
		{maxCap, maxCap, 1, false}, {maxCap, maxCap - 1, 0, false}, {10, 6, 3, false}, {10, 8, 3, false},
	} {
		m, own := made(t, 1, 2), ep(1, 1)
		want := mark(own)
		if c.all {
			want = decide(own)
		}
		wantBegun(t, m, c.limit, c.rights, c.held, false, want)
		wantLive(t, m, own, own)
		// an epoch that needs all can't have all at once: there is always another one
		m = made(t, 1, 2)
		wantBegun(t, m, c.limit, c.rights, c.held, true, mark(own))
		wantLive(t, m, own, own)
		wantOwn(t, m, own, 0, false)
	}
}

func TestP1103Frozen(t *testing.T) {
	m := made(t, 1, 3)
	wantHeard(t, m, ep(1, 0), yield(ep(1, 0)))
	wantRefused(t, m, 10, 10, 0, api.ErrFrozen)
	wantLive(t, m, ep(1, 0), ep(1, 0))
	// frozen comes ahead of the rounds' end
	wantHeard(t, m, ep(maxRound, 2), yield(ep(maxRound, 2)))
	wantRefused(t, m, 10, 10, 0, api.ErrFrozen)
	wantEnded(t, m, ep(maxRound, 2), none, yield(ep(1, 0)))
	wantRefused(t, m, 10, 10, 0, api.ErrFrozen)
	wantEnded(t, m, ep(1, 0), none, thaw(1))
	wantRefused(t, m, 10, 10, 0, api.ErrLong)
	wantRefused(t, m, 10, 1, 0, api.ErrLong)
	wantNothing(t, m)
}

// The last round is one's own.
func TestP1103LastRound(t *testing.T) {
	m, own := made(t, 0, 2), ep(maxRound, 0)
	wantEnded(t, m, ep(maxRound-1, 1), none)
	wantBegun(t, m, 10, 4, 0, false, mark(own))
	wantActs(t, "Finish", m.Finish(), thaw(0))
	wantRefused(t, m, 10, 4, 0, api.ErrLong)
	wantNothing(t, m)
	wantHeard(t, m, ep(maxRound, 1), yield(ep(maxRound, 1)))
}

// Nothing of one epoch of one's own stays for the next one.
func TestP1103Anew(t *testing.T) {
	for _, end := range []func(m *epoch.Machine){
		func(m *epoch.Machine) { m.Finish() },
		func(m *epoch.Machine) { m.Hear(ep(1, 2)); m.End(ep(1, 2), none) },
	} {
		m := made(t, 0, 3)
		wantBegun(t, m, 10, 4, 0, true, mark(ep(1, 0)))
		report(t, m, 1, ep(1, 0), 3)
		report(t, m, 2, ep(1, 0), 3)
		wantOwn(t, m, ep(1, 0), 6, true)
		end(m)
		wantNothing(t, m)
		wantBegun(t, m, 10, 4, 0, false, mark(ep(2, 0)))
		wantOwn(t, m, ep(2, 0), 0, false)
		wantLooked(t, m, 10, 4, 0)
		wantLooked(t, m, 10, 10, 0, decide(ep(2, 0)))
		report(t, m, 1, ep(1, 0), 3)
		wantOwn(t, m, ep(2, 0), 0, false)
		m.Finish()
		wantBegun(t, m, 10, 10, 0, true, mark(ep(3, 0)))
		wantLooked(t, m, 10, 10, 0)
	}
}

func TestP1104Hear(t *testing.T) {
	m := made(t, 1, 4)
	wantHeard(t, m, ep(2, 0), yield(ep(2, 0)))
	wantHeard(t, m, ep(2, 0))
	wantHeard(t, m, ep(1, 0))
	wantHeard(t, m, ep(1, 2))
	wantHeard(t, m, ep(1, 3))
	wantLive(t, m, ep(2, 0), ep(2, 0), ep(1, 2), ep(1, 3))
	// the next one of the same rank takes the place of the one ahead of it
	wantHeard(t, m, ep(3, 0), yield(ep(3, 0)))
	wantHeard(t, m, ep(2, 2))
	wantLive(t, m, ep(3, 0), ep(3, 0), ep(2, 2), ep(1, 3))
	wantHeard(t, m, ep(3, 2), yield(ep(3, 2)))
	wantHeard(t, m, ep(1, 2))
	wantLive(t, m, ep(3, 2), ep(3, 0), ep(3, 2), ep(1, 3))
}

func TestP1104None(t *testing.T) {
	for replicas := 2; replicas <= 16; replicas++ {
		for me := range replicas {
			idle, busy, own := made(t, me, replicas), made(t, me, replicas), made(t, me, replicas)
			other := ep(5, (me+1)%replicas)
			wantHeard(t, busy, other, yield(other))
			wantBegun(t, own, 9, 1, 1, false, mark(ep(1, me)))
			for _, e := range append(wrongEpochs(replicas), ep(1, me), ep(6, me), ep(maxRound, me)) {
				wantHeard(t, idle, e)
				wantHeard(t, busy, e)
				wantHeard(t, own, e)
			}
			wantNothing(t, idle)
			wantLive(t, busy, other, other)
			wantLive(t, own, ep(1, me), ep(1, me))
		}
	}
}

// A late mark of an epoch that is over freezes nothing; one of a later round does.
func TestP1104Late(t *testing.T) {
	m := made(t, 0, 3)
	wantEnded(t, m, ep(4, 2), none)
	for round := 1; round <= 4; round++ {
		wantHeard(t, m, ep(round, 2))
	}
	wantNothing(t, m)
	wantHeard(t, m, ep(4, 1), yield(ep(4, 1)))
	wantHeard(t, m, ep(5, 2), yield(ep(5, 2)))
}

func TestP1104GiveUp(t *testing.T) {
	m := made(t, 1, 3)
	wantBegun(t, m, 10, 4, 0, false, mark(ep(1, 1)))
	report(t, m, 0, ep(1, 1), 1)
	report(t, m, 2, ep(1, 1), 1)
	wantHeard(t, m, ep(1, 0))
	wantOwn(t, m, ep(1, 1), 2, true)
	wantHeard(t, m, ep(2, 0), giveUp(ep(1, 1), ep(2, 0))...)
	wantLive(t, m, ep(2, 0), ep(2, 0))
	wantOwn(t, m, none, 0, false)
	// it was given up once: the next one is a new target and no more
	wantHeard(t, m, ep(2, 2), yield(ep(2, 2)))
	report(t, m, 0, ep(1, 1), 1)
	wantOwn(t, m, none, 0, false)
	wantLooked(t, m, 10, 10, 0)
	wantActs(t, "Finish", m.Finish())
	wantLive(t, m, ep(2, 2), ep(2, 0), ep(2, 2))
}

func TestP1105End(t *testing.T) {
	m := made(t, 1, 4)
	wantHeard(t, m, ep(5, 0), yield(ep(5, 0)))
	wantHeard(t, m, ep(6, 2), yield(ep(6, 2)))
	wantHeard(t, m, ep(4, 3))
	// an earlier one of a rank says nothing of its later one
	wantEnded(t, m, ep(5, 2), none)
	wantEnded(t, m, ep(4, 0), none)
	wantLive(t, m, ep(6, 2), ep(5, 0), ep(6, 2), ep(4, 3))
	// one that is not the target goes without a word
	wantEnded(t, m, ep(5, 0), none)
	wantEnded(t, m, ep(5, 0), none)
	wantLive(t, m, ep(6, 2), ep(6, 2), ep(4, 3))
	// a later one ends all earlier ones of its rank, and was told too
	wantEnded(t, m, ep(9, 2), none, yield(ep(4, 3)))
	wantHeard(t, m, ep(8, 2))
	wantHeard(t, m, ep(9, 2))
	wantEnded(t, m, ep(4, 3), none, thaw(1))
	wantEnded(t, m, ep(4, 3), none)
	wantEnded(t, m, ep(7, 3), none)
	wantNothing(t, m)
	wantBegun(t, m, 10, 10, 0, false, decide(ep(10, 1)))
}

func TestP1105Over(t *testing.T) {
	m := made(t, 1, 4)
	// the turn is one, behind both
	wantHeard(t, m, ep(1, 0), yield(ep(1, 0)))
	wantEnded(t, m, ep(1, 0), ep(2, 3), yield(ep(2, 3)))
	wantLive(t, m, ep(2, 3), ep(2, 3))
	// the same rank: what it has begun since
	wantEnded(t, m, ep(2, 3), ep(3, 3), yield(ep(3, 3)))
	wantEnded(t, m, ep(3, 3), ep(3, 3), thaw(1))
	wantEnded(t, m, ep(4, 3), ep(2, 3))
	wantNothing(t, m)
	// over alone
	wantEnded(t, m, none, ep(4, 0), yield(ep(4, 0)))
	wantEnded(t, m, none, ep(4, 0))
	wantEnded(t, m, ep(1, 2), ep(4, 0))
	// over a lower one than the target
	wantEnded(t, m, none, ep(1, 2))
	wantEnded(t, m, none, ep(3, 2))
	wantLive(t, m, ep(4, 0), ep(4, 0), ep(3, 2))
	// the target goes, over is below what is left
	wantEnded(t, m, none, ep(5, 3), yield(ep(5, 3)))
	wantEnded(t, m, ep(5, 3), ep(2, 2), yield(ep(4, 0)))
	wantEnded(t, m, ep(4, 0), ep(1, 0), yield(ep(3, 2)))
}

func TestP1105None(t *testing.T) {
	for replicas := 2; replicas <= 16; replicas++ {
		for me := range replicas {
			other := ep(5, (me+1)%replicas)
			idle, busy, own := made(t, me, replicas), made(t, me, replicas), made(t, me, replicas)
			wantHeard(t, busy, other, yield(other))
			wantBegun(t, own, 9, 1, 1, false, mark(ep(1, me)))
			wrong := append(wrongEpochs(replicas), ep(1, me), ep(6, me), ep(maxRound, me))
			for i, e := range wrong {
				for _, over := range []api.Epoch{none, e, wrong[len(wrong)-1-i]} {
					wantEnded(t, idle, e, over)
					wantEnded(t, busy, e, over)
					wantEnded(t, own, e, over)
				}
			}
			wantNothing(t, idle)
			wantLive(t, busy, other, other)
			wantLive(t, own, ep(1, me), ep(1, me))
			wantOwn(t, own, ep(1, me), 0, false)
			// what is none takes nothing from the other one
			for _, e := range wrong {
				m := made(t, me, replicas)
				wantEnded(t, m, e, other, yield(other))
				wantEnded(t, m, other, e, thaw(me))
			}
		}
	}
}

func TestP1105GiveUp(t *testing.T) {
	m := made(t, 1, 3)
	wantBegun(t, m, 10, 4, 0, false, mark(ep(1, 1)))
	wantHeard(t, m, ep(1, 0))
	report(t, m, 0, ep(1, 1), 3)
	wantEnded(t, m, ep(1, 0), ep(1, 2), giveUp(ep(1, 1), ep(1, 2))...)
	wantLive(t, m, ep(1, 2), ep(1, 2))
	wantOwn(t, m, none, 0, false)
	wantEnded(t, m, ep(1, 2), none, thaw(1))
	// one that has finished already is nothing to give up for, however high it was
	wantBegun(t, m, 10, 4, 0, false, mark(ep(2, 1)))
	report(t, m, 0, ep(2, 1), 3)
	wantEnded(t, m, ep(9, 2), none)
	wantEnded(t, m, ep(9, 0), ep(9, 2))
	wantLive(t, m, ep(2, 1), ep(2, 1))
	wantOwn(t, m, ep(2, 1), 3, false)
	wantActs(t, "Finish", m.Finish(), thaw(1))
	wantBegun(t, m, 10, 4, 0, false, mark(ep(10, 1)))
}

func TestP1106Report(t *testing.T) {
	m, own := made(t, 1, 3), ep(4, 1)
	wantEnded(t, m, ep(3, 0), none)
	report(t, m, 0, own, 5)
	wantBegun(t, m, 10, 4, 0, false, mark(own))
	wantOwn(t, m, own, 0, false)
	for _, e := range []api.Epoch{none, ep(3, 1), ep(5, 1), ep(4, 0), ep(4, 2), ep(0, 1), ep(4, -1), ep(-4, 1)} {
		report(t, m, 0, e, 5)
	}
	for _, from := range []int{1, -1, 3, 4, 15, 16, 256, 1 << 32, math.MaxInt, math.MinInt} {
		report(t, m, from, own, 5)
	}
	for _, held := range wrongCounts() {
		report(t, m, 0, own, held)
	}
	wantOwn(t, m, own, 0, false)
	report(t, m, 0, own, 5)
	wantOwn(t, m, own, 5, false)
	report(t, m, 0, own, 2)
	wantOwn(t, m, own, 2, false)
	report(t, m, 2, own, 0)
	wantOwn(t, m, own, 2, true)
	report(t, m, 0, own, 0)
	wantOwn(t, m, own, 0, true)
	report(t, m, 0, own, maxCap)
	report(t, m, 2, own, maxCap)
	wantOwn(t, m, own, 2*maxCap, true)
	for _, held := range wrongCounts() {
		report(t, m, 0, own, held)
	}
	wantOwn(t, m, own, 2*maxCap, true)
	wantLive(t, m, own, own)
}

// Nobody reports where there is no own epoch: none names nothing.
func TestP1106NoOwn(t *testing.T) {
	m := made(t, 0, 2)
	check := func() {
		for _, e := range []api.Epoch{none, ep(1, 0), ep(1, 1), ep(2, 1)} {
			report(t, m, 1, e, 7)
		}
		wantOwn(t, m, none, 0, false)
	}
	check()
	wantHeard(t, m, ep(1, 1), yield(ep(1, 1)))
	check()
	wantEnded(t, m, ep(1, 1), none, thaw(0))
	check()
	wantBegun(t, m, 10, 4, 0, false, mark(ep(2, 0)))
	wantOwn(t, m, ep(2, 0), 0, false)
}

func TestP1107Look(t *testing.T) {
	m, own := made(t, 1, 3), ep(1, 1)
	wantLooked(t, m, 10, 10, 0)
	wantBegun(t, m, 10, 4, 0, false, mark(own))
	wantLooked(t, m, 10, 10, 0, decide(own))
	wantLooked(t, m, 10, 9, 1, decide(own))
	wantLooked(t, m, 10, 0, 10, decide(own))
	wantLooked(t, m, 10, 9, 0)
	wantLooked(t, m, 10, 9, 2)
	wantLooked(t, m, 11, 10, 0)
	wantLooked(t, m, maxCap, maxCap, 0, decide(own))
	report(t, m, 2, own, 3)
	wantLooked(t, m, 10, 10, 0)
	wantLooked(t, m, 10, 7, 0, decide(own))
	wantLooked(t, m, 10, 5, 2, decide(own))
	wantLooked(t, m, 3, 0, 0, decide(own))
	wantLooked(t, m, 2, 0, 0)
	report(t, m, 0, own, 1)
	wantLooked(t, m, 10, 7, 0)
	wantLooked(t, m, 10, 6, 0, decide(own))
	wantLooked(t, m, maxCap, maxCap-4, 0, decide(own))
	// by that nothing has changed
	wantLive(t, m, own, own)
	wantOwn(t, m, own, 4, true)
}

func TestP1107Wrong(t *testing.T) {
	m, own := made(t, 0, 16), ep(1, 0)
	wantBegun(t, m, 10, 4, 0, false, mark(own))
	for from := 1; from <= 3; from++ {
		report(t, m, from, own, maxCap)
	}
	for _, n := range wrongCounts() {
		wantLooked(t, m, 10, n, 10-n)
		wantLooked(t, m, 10, 10-n, n)
		wantLooked(t, m, 10, n, 10-n-3*maxCap)
		wantLooked(t, m, n, 0, n-3*maxCap)
		wantLooked(t, m, n, n-3*maxCap, 0)
	}
	wantLooked(t, m, 3*maxCap, 0, 0)
	wantLooked(t, m, 4*maxCap, maxCap, 0)
	// where nothing is reported, a limit of 0 is still none
	other := made(t, 0, 2)
	wantBegun(t, other, 10, 4, 0, false, mark(own))
	wantLooked(t, other, 0, 0, 0)
	wantLooked(t, other, maxCap+1, maxCap, 1)
	wantLooked(t, other, maxCap+1, maxCap+1, 0)
	wantLooked(t, other, 5, 6, -1)
	wantLooked(t, other, 5, -1, 6)
	wantLooked(t, other, -1, 0, -1)
}

func TestP1107NeedsAll(t *testing.T) {
	for replicas := 2; replicas <= 16; replicas++ {
		for me := range replicas {
			m, own := made(t, me, replicas), ep(1, me)
			wantBegun(t, m, 10, 10, 0, true, mark(own))
			for from := range replicas {
				if from != me {
					wantLooked(t, m, 10, 10, 0)
					report(t, m, from, own, 0)
				}
			}
			wantLooked(t, m, 10, 9, 0)
			wantLooked(t, m, 10, 10, 0, decide(own))
		}
	}
}

// What was asked of Begin holds for its own epoch alone: one that is refused asks nothing.
func TestP1107NeedsAllOfItsOwn(t *testing.T) {
	m := made(t, 0, 2)
	wantBegun(t, m, 10, 4, 0, false, mark(ep(1, 0)))
	m.Begin(10, 4, 0, true)
	wantLooked(t, m, 10, 10, 0, decide(ep(1, 0)))
	m.Finish()
	m.Begin(0, 4, 0, true)
	wantBegun(t, m, 10, 4, 0, true, mark(ep(2, 0)))
	m.Begin(10, 4, 0, false)
	wantLooked(t, m, 10, 10, 0)
}

// A lower epoch that is live besides hinders no decision; without an own one there is none.
func TestP1107Others(t *testing.T) {
	m := made(t, 1, 3)
	wantBegun(t, m, 10, 4, 0, false, mark(ep(1, 1)))
	wantHeard(t, m, ep(1, 0))
	wantLooked(t, m, 10, 10, 0, decide(ep(1, 1)))
	wantActs(t, "Finish", m.Finish(), yield(ep(1, 0)))
	wantLooked(t, m, 10, 10, 0)
	wantEnded(t, m, ep(1, 0), none, thaw(1))
	wantLooked(t, m, 10, 10, 0)
}

func TestP1108Finish(t *testing.T) {
	m := made(t, 2, 4)
	wantActs(t, "Finish", m.Finish())
	wantBegun(t, m, 10, 4, 0, false, mark(ep(1, 2)))
	wantActs(t, "Finish", m.Finish(), thaw(2))
	wantActs(t, "Finish", m.Finish())
	wantNothing(t, m)
	wantBegun(t, m, 10, 4, 0, false, mark(ep(2, 2)))
	wantHeard(t, m, ep(1, 3))
	wantHeard(t, m, ep(2, 0))
	wantHeard(t, m, ep(2, 1))
	wantActs(t, "Finish", m.Finish(), yield(ep(2, 1)))
	wantLive(t, m, ep(2, 1), ep(2, 0), ep(2, 1), ep(1, 3))
	wantOwn(t, m, none, 0, false)
	wantActs(t, "Finish", m.Finish())
	wantLive(t, m, ep(2, 1), ep(2, 0), ep(2, 1), ep(1, 3))
}
