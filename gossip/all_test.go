package gossip_test

import (
	"testing"

	"sluice/api"
	"sluice/gossip"
	"sluice/ledger"
	"sluice/views"
)

// parcel is a want, or what was given, on its way.
type parcel struct {
	from, to int
	given    bool
	r        api.Rights
}

// group is some replicas of one counter, with what each has, knows and lacks.
type group struct {
	gossips     []*gossip.Gossip
	ledgers     []*ledger.Ledger
	views       []*views.Views
	under       []parcel
	needs, asks []int // how often each has called Need, and was told to ask
	version     int
	all         int
}

func grouped(t *testing.T, d *dice) *group {
	g := &group{}
	replicas := 2 + d.roll(4)
	for me := range replicas {
		g.gossips = append(g.gossips, made(t, me, replicas))
		g.ledgers = append(g.ledgers, having(t, rights(d.roll(12), d.roll(12))))
		g.views = append(g.views, knowing(t, me, "k", make([]api.Rights, replicas)...))
	}
	g.needs, g.asks = make([]int, replicas), make([]int, replicas)
	g.all = g.sum()
	return g
}

// sum tells all rights, wherever they are.
func (g *group) sum() int {
	sum := 0
	for _, l := range g.ledgers {
		sum += l.Rights().Down + l.Rights().Up
	}
	for _, p := range g.under {
		if p.given {
			sum += p.r.Down + p.r.Up
		}
	}
	return sum
}

// tick is one of a replica's: it tells the others what it has, mostly, and asks, if it is to.
func (g *group) tick(t *testing.T, me int, d *dice) {
	g.version++
	for at, v := range g.views {
		if at != me && d.roll(3) > 0 {
			v.Take(me, []api.View{{Name: "k", Cap: maxCap, Version: 1 + g.version, Rights: g.ledgers[me].Rights()}})
		}
	}
	whom, want, ask := g.gossips[me].Tick("k", g.ledgers[me], g.views[me])
	if !ask {
		return
	}
	g.asks[me]++
	if whom == me || whom < 0 || whom >= len(g.gossips) || g.asks[me] > g.needs[me] {
		t.Errorf("the replica %d asks %d, %d times by %d needs", me, whom, g.asks[me], g.needs[me])
	}
	g.under = append(g.under, parcel{from: me, to: whom, r: want})
}

// arrive lets one of what is under way come; a want may come again, what was given may not.
func (g *group) arrive(t *testing.T, i int, again bool) {
	p := g.under[i]
	if p.given || !again {
		g.under = append(g.under[:i:i], g.under[i+1:]...)
	}
	l := g.ledgers[p.to]
	had := l.Rights()
	if p.given {
		l.In(p.r)
		return
	}
	given := g.gossips[p.to].Give(l, p.r)
	left := l.Rights()
	if left.Down != had.Down-given.Down || left.Up != had.Up-given.Up {
		t.Errorf("given %v of %v, left %v", given, had, left)
	}
	wantBounded(t, given.Down, p.r.Down, had.Down)
	wantBounded(t, given.Up, p.r.Up, had.Up)
	g.under = append(g.under, parcel{from: p.to, to: p.from, given: true, r: given})
}

func wantBounded(t *testing.T, given, want, had int) {
	t.Helper()
	if given < 0 || given > max(want, 0) || 2*given > had+1 {
		t.Errorf("given %d of %d, wanted %d", given, had, want)
	}
}

// spend turns rights, or says that they were lacking.
func (g *group) spend(me int, d *dice) {
	k := 1 + d.roll(8)
	if d.roll(2) == 0 {
		if g.ledgers[me].Dec(k) == api.OK {
			return
		}
		g.gossips[me].Need("k", rights(k, 0))
	} else {
		if g.ledgers[me].Inc(k) == api.OK {
			return
		}
		g.gossips[me].Need("k", rights(0, k))
	}
	g.needs[me]++
}

// Replicas spend, ask and give, wants come late and again: all rights together stay as many as they were.
func TestP1205NothingTwice(t *testing.T) {
	d := dice(14)
	asked := 0
	for range 100 {
		g := grouped(t, &d)
		for range 300 {
			switch me := d.roll(len(g.gossips)); {
			case d.roll(3) == 0:
				g.spend(me, &d)
			case d.roll(2) == 0:
				g.tick(t, me, &d)
			case len(g.under) > 0:
				g.arrive(t, d.roll(len(g.under)), d.roll(4) == 0)
			}
			if g.sum() != g.all {
				t.Fatalf("%d rights in all, were %d", g.sum(), g.all)
			}
		}
		for _, n := range g.asks {
			asked += n
		}
	}
	if asked < 500 {
		t.Errorf("asked only %d times: too little is played", asked)
	}
}

// Wherever most are known, also where the replica itself is said to have most, it never asks itself.
func TestP1205NeverItself(t *testing.T) {
	d := dice(15)
	for range 2000 {
		replicas := 2 + d.roll(15)
		me := d.roll(replicas)
		known := make([]api.Rights, replicas)
		for i := range known {
			known[i] = rights(d.roll(3), d.roll(3))
		}
		known[me] = rights(9, 9)
		g := made(t, me, replicas)
		g.Need("k", rights(d.roll(2), 1))
		if to, _, there := g.Tick("k", having(t, none), knowing(t, me, "k", known...)); there && to == me {
			t.Errorf("the replica %d asks itself: %v", me, known)
		}
	}
}

// One Need, one question, however many ticks there are and whatever is given.
func TestP1205NoOftener(t *testing.T) {
	g, v, l := made(t, 0, 2), knowing(t, 0, "k", none, rights(9, 9)), having(t, none)
	for range 3 {
		g.Need("k", rights(2, 2))
		wantAsked(t, g, "k", l, v, 1, rights(2, 2))
		for range 5 {
			wantSilent(t, g, "k", l, v, none)
		}
	}
	g.Need("k", rights(2, 2))
	g.Need("k", rights(3, 1))
	wantAsked(t, g, "k", l, v, 1, rights(3, 2))
	wantSilent(t, g, "k", l, v, none)
}
