package epoch_test

import (
	"math"
	"slices"
	"testing"

	"sluice/api"
	"sluice/epoch"
)

// dice: numbers that hang on its beginning alone.
type dice uint64

func (d *dice) roll(n int) int {
	*d = *d*6364136223846793005 + 1442695040888963407
	return int(uint64(*d) >> 33 % uint64(n))
}

func (d *dice) bytes(n int) []byte {
	b := make([]byte, n)
	for i := range b {
		b[i] = byte(d.roll(256))
	}
	return b
}

const (
	maxCap   = 1 << 40
	maxRound = 1 << 40
)

var none api.Epoch

func ep(round, rank int) api.Epoch { return api.Epoch{Round: round, Rank: rank} }

func made(t *testing.T, me, replicas int) *epoch.Machine {
	t.Helper()
	m, e := epoch.New(me, replicas)
	if e != api.OK || m == nil {
		t.Fatalf("New(%d, %d): %v, %d", me, replicas, m, e)
	}
	return m
}

func mark(e api.Epoch) epoch.Act   { return epoch.Act{Kind: 1, To: -1, Epoch: e} }
func yield(e api.Epoch) epoch.Act  { return epoch.Act{Kind: 2, To: e.Rank, Epoch: e} }
func decide(e api.Epoch) epoch.Act { return epoch.Act{Kind: 4, To: e.Rank, Epoch: e} }
func thaw(me int) epoch.Act        { return epoch.Act{Kind: 6, To: me} }

// giveUp is what is to be done where own is given up for the target.
func giveUp(own, target api.Epoch) []epoch.Act {
	return []epoch.Act{{Kind: 3, To: -1, Epoch: own, Over: target}, {Kind: 5, To: own.Rank, Epoch: own}, yield(target)}
}

func wantActs(t *testing.T, what string, got []epoch.Act, want ...epoch.Act) {
	t.Helper()
	if !slices.Equal(got, want) {
		t.Errorf("%s: %+v, want %+v", what, got, want)
	}
}

func wantBegun(t *testing.T, m *epoch.Machine, limit, rights, held int, all bool, want epoch.Act) {
	t.Helper()
	if got, e := m.Begin(limit, rights, held, all); e != api.OK || !slices.Equal(got, []epoch.Act{want}) {
		t.Errorf("Begin(%d, %d, %d, %v): %+v, %d, want %+v", limit, rights, held, all, got, e, want)
	}
}

func wantRefused(t *testing.T, m *epoch.Machine, limit, rights, held int, err api.Errno) {
	t.Helper()
	for _, all := range []bool{false, true} {
		if got, e := m.Begin(limit, rights, held, all); e != err || len(got) > 0 {
			t.Errorf("Begin(%d, %d, %d, %v): %+v, %d, want %d", limit, rights, held, all, got, e, err)
		}
	}
}

func wantHeard(t *testing.T, m *epoch.Machine, e api.Epoch, want ...epoch.Act) {
	t.Helper()
	if got := m.Hear(e); !slices.Equal(got, want) {
		t.Errorf("Hear(%v): %+v, want %+v", e, got, want)
	}
}

func wantEnded(t *testing.T, m *epoch.Machine, e, over api.Epoch, want ...epoch.Act) {
	t.Helper()
	if got := m.End(e, over); !slices.Equal(got, want) {
		t.Errorf("End(%v, %v): %+v, want %+v", e, over, got, want)
	}
}

func wantLooked(t *testing.T, m *epoch.Machine, limit, rights, held int, want ...epoch.Act) {
	t.Helper()
	if got := m.Look(limit, rights, held); !slices.Equal(got, want) {
		t.Errorf("Look(%d, %d, %d): %+v, want %+v", limit, rights, held, got, want)
	}
}

func report(t *testing.T, m *epoch.Machine, from int, e api.Epoch, held int) {
	t.Helper()
	if got := m.Report(from, e, held); len(got) > 0 {
		t.Errorf("Report(%d, %v, %d): %+v, want nothing", from, e, held, got)
	}
}

// wantLive: just these epochs are live, by rising ranks, and the target is this one of them.
func wantLive(t *testing.T, m *epoch.Machine, target api.Epoch, list ...api.Epoch) {
	t.Helper()
	if got := m.Live(); !slices.Equal(got, list) {
		t.Errorf("Live: %v, want %v", got, list)
	}
	if got := m.Target(); got != target {
		t.Errorf("Target: %v, want %v", got, target)
	}
	if got := m.Frozen(); got != (len(list) > 0) {
		t.Errorf("Frozen: %v, live are %v", got, list)
	}
}

// wantOwn: this is the own epoch, and so much was reported to it.
func wantOwn(t *testing.T, m *epoch.Machine, own api.Epoch, reported int, all bool) {
	t.Helper()
	if got := m.Own(); got != own {
		t.Errorf("Own: %v, want %v", got, own)
	}
	if got := m.Reported(); got != reported {
		t.Errorf("Reported: %d, want %d", got, reported)
	}
	if got := m.All(); got != all {
		t.Errorf("All: %v, want %v", got, all)
	}
}

// wantNothing: no epoch is live.
func wantNothing(t *testing.T, m *epoch.Machine) {
	t.Helper()
	wantLive(t, m, none)
	wantOwn(t, m, none, 0, false)
}

// wrongCounts are below 0 or above MaxCap.
func wrongCounts() []int {
	return []int{-1, -2, maxCap + 1, 1 << 41, 1<<40 + 1<<32, -1 << 40, -1 << 32, math.MaxInt, math.MinInt, math.MinInt + 1}
}

// wrongEpochs are none, at a machine of so many replicas.
func wrongEpochs(replicas int) []api.Epoch {
	list := []api.Epoch{none, ep(0, 1), ep(5, replicas), ep(5, replicas+1), ep(5, -1), ep(5, 16), ep(5, 1<<32), ep(5, 256)}
	list = append(list, ep(5, math.MaxInt), ep(5, math.MinInt), ep(0, -1), ep(-1, -1))
	for rank := range replicas {
		list = append(list, ep(0, rank), ep(-1, rank), ep(maxRound+1, rank), ep(math.MaxInt, rank), ep(math.MinInt, rank))
	}
	return list
}
