package gossip_test

import (
	"testing"

	"sluice/api"
	"sluice/gossip"
	"sluice/ledger"
	"sluice/views"
)

// dice: numbers that hang on its beginning alone.
type dice uint64

func (d *dice) roll(n int) int {
	*d = *d*6364136223846793005 + 1442695040888963407
	return int(uint64(*d) >> 33 % uint64(n))
}

func (d *dice) bytes(n int) []byte {
	b := make([]byte, n)
	for i := range b {
		b[i] = byte(d.roll(256))
	}
	return b
}

const maxCap = 1 << 40

var none api.Rights

func rights(down, up int) api.Rights { return api.Rights{Down: down, Up: up} }

func made(t *testing.T, me, replicas int) *gossip.Gossip {
	t.Helper()
	g, e := gossip.New(me, replicas)
	if e != api.OK || g == nil {
		t.Fatalf("New(%d, %d): %v, %d", me, replicas, g, e)
	}
	return g
}

// having is a ledger with rights, with room for all that there can be.
func having(t *testing.T, r api.Rights) *ledger.Ledger {
	t.Helper()
	l, e := ledger.New(maxCap)
	if e != api.OK || l.In(r) != api.OK {
		t.Fatalf("a ledger with %v: %d", r, e)
	}
	return l
}

// knowing is the views of the replica me, in which each replica has said of a name what the list tells.
func knowing(t *testing.T, me int, name string, list ...api.Rights) *views.Views {
	t.Helper()
	v, e := views.New(me, len(list))
	if e != api.OK {
		t.Fatalf("views of %d replicas: %d", len(list), e)
	}
	for replica, r := range list {
		learn(t, v, me, replica, name, r)
	}
	return v
}

// learn makes a view of a replica, at first, known to the replica me.
func learn(t *testing.T, v *views.Views, me, replica int, name string, r api.Rights) {
	t.Helper()
	var e api.Errno
	if replica == me {
		e = v.Tell(name, maxCap, 0, r, 0)
	} else {
		_, e = v.Take(replica, []api.View{{Name: name, Cap: maxCap, Version: 1, Rights: r}})
	}
	if e != api.OK {
		t.Fatalf("a view of %d, %q %v: %d", replica, name, r, e)
	}
}

func wantLacks(t *testing.T, g *gossip.Gossip, name string, want api.Rights) {
	t.Helper()
	if got := g.Lacks(name); got != want {
		t.Errorf("Lacks(%q): %v, want %v", name, got, want)
	}
}

// wantAsked: a tick tells to ask a replica; nothing is lacking then.
func wantAsked(t *testing.T, g *gossip.Gossip, name string, l *ledger.Ledger, v *views.Views, whom int, want api.Rights) {
	t.Helper()
	if to, r, there := g.Tick(name, l, v); to != whom || r != want || !there {
		t.Errorf("Tick(%q): %d, %v, %v, want %d, %v, true", name, to, r, there, whom, want)
	}
	wantLacks(t, g, name, none)
}

// wantSilent: a tick asks nobody; so much is lacking then.
func wantSilent(t *testing.T, g *gossip.Gossip, name string, l *ledger.Ledger, v *views.Views, lacking api.Rights) {
	t.Helper()
	if to, r, there := g.Tick(name, l, v); to != 0 || r != none || there {
		t.Errorf("Tick(%q): %d, %v, %v, want 0, none, false", name, to, r, there)
	}
	wantLacks(t, g, name, lacking)
}

func wantGiven(t *testing.T, g *gossip.Gossip, l *ledger.Ledger, want, given, left api.Rights) {
	t.Helper()
	had := l.Rights()
	if r := g.Give(l, want); r != given || l.Rights() != left {
		t.Errorf("Give(a ledger with %v, %v): %v, left %v, want %v, %v", had, want, r, l.Rights(), given, left)
	}
}

// wrongRights: in each is a number that no counter has.
func wrongRights() []api.Rights {
	var list []api.Rights
	for _, wrong := range []int{-1, -2, -1 << 31, -1 << 40, -1 << 63, maxCap + 1, 1 << 41, 1<<63 - 1} {
		for _, other := range []int{0, 9, maxCap, -1, maxCap + 1} {
			list = append(list, rights(wrong, other), rights(other, wrong))
		}
	}
	return list
}
