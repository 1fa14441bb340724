package epoch_test

import (
	"slices"
	"testing"

	"sluice/api"
	"sluice/epoch"
)

// spoil overwrites a list up to the end of its spare room.
func spoil[T any](list []T, by T) {
	list = list[:cap(list)]
	for i := range list {
		list[i] = by
	}
}

// What is answered, up to the end of its spare room, is the caller's.
func TestP1109NewMemory(t *testing.T) {
	m := made(t, 1, 4)
	bad := epoch.Act{Kind: 9, To: 9, Epoch: ep(9, 9), Over: ep(9, 9)}
	begun, _ := m.Begin(10, 4, 0, false)
	wantActs(t, "Begin", begun, mark(ep(1, 1)))
	spoil(begun, bad)
	looked, again := m.Look(10, 10, 0), m.Look(10, 10, 0)
	spoil(looked, bad)
	wantActs(t, "Look", again, decide(ep(1, 1)))
	wantHeard(t, m, ep(1, 0))
	given := m.Hear(ep(1, 3))
	wantActs(t, "Hear", given, giveUp(ep(1, 1), ep(1, 3))...)
	live, liveAgain := m.Live(), m.Live()
	spoil(live, ep(9, 9))
	wantLive(t, m, ep(1, 3), ep(1, 0), ep(1, 3))
	ended := m.End(ep(1, 3), none)
	wantActs(t, "End", ended, yield(ep(1, 0)))
	spoil(ended, bad)
	wantEnded(t, m, ep(1, 0), none, thaw(1))
	wantActs(t, "Hear, behind later calls", given, giveUp(ep(1, 1), ep(1, 3))...)
	if !slices.Equal(liveAgain, []api.Epoch{ep(1, 0), ep(1, 3)}) {
		t.Errorf("a later call, or a change of one answer, reaches another: %v", liveAgain)
	}
	spoil(given, bad)
	wantBegun(t, m, 10, 10, 0, false, decide(ep(2, 1)))
	finished := m.Finish()
	spoil(finished, bad)
	wantNothing(t, m)
	wantBegun(t, m, 10, 4, 0, false, mark(ep(3, 1)))
}

func TestP1109TwoMachines(t *testing.T) {
	one, two := made(t, 0, 3), made(t, 0, 3)
	wantBegun(t, one, 10, 4, 0, true, mark(ep(1, 0)))
	report(t, one, 1, ep(1, 0), 4)
	wantNothing(t, two)
	wantHeard(t, two, ep(5, 2), yield(ep(5, 2)))
	wantLive(t, one, ep(1, 0), ep(1, 0))
	wantEnded(t, two, ep(7, 2), none, thaw(0))
	wantBegun(t, two, 10, 4, 0, false, mark(ep(8, 0)))
	wantLooked(t, two, 10, 10, 0, decide(ep(8, 0)))
	wantOwn(t, one, ep(1, 0), 4, false)
	wantActs(t, "Finish", two.Finish(), thaw(0))
	report(t, one, 2, ep(1, 0), 2)
	wantLooked(t, one, 10, 4, 0, decide(ep(1, 0)))
	wantNothing(t, two)
	wantActs(t, "Finish", one.Finish(), thaw(0))
	wantBegun(t, one, 10, 4, 0, false, mark(ep(2, 0)))
}
