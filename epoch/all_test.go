package epoch_test

import (
	"slices"
	"testing"

	"sluice/api"
	"sluice/epoch"
)

// message is one between replicas, with the kinds of package api; a give, api.MsgGive, is of rights alone.
type message struct {
	kind, from, to int
	epoch, over    api.Epoch
	rights, held   int
	limit, recaps  int
}

// place is one replica's part in a counter: what it has, the cap that it knows, and the ops that wait. An op is a read
// (0), or sets the cap higher or lower by a number that is not 0.
type place struct {
	machine       *epoch.Machine
	rights, held  int
	limit, recaps int
	op            int // of the own epoch
	marked        bool
	line          []int
	reports       map[int]int // to the own epoch
}

// How an epoch came to its end.
const (
	decided = iota + 1
	decidedAtOnce
	gaveUp
	ranOut
	recapped // a decision besides
	endings
)

// group is all replicas of a counter, and the messages that are under way.
type group struct {
	places []*place
	bag    []message
	limit  int // the cap as it is, whoever knows it
	begun  []api.Epoch
	ended  map[api.Epoch]int
	count  [endings]int
	d      *dice
}

func grouped(t *testing.T, d *dice, replicas int) *group {
	g := &group{limit: 1 + d.roll(20), ended: map[api.Epoch]int{}, d: d}
	for me := range replicas {
		g.places = append(g.places, &place{machine: made(t, me, replicas), limit: g.limit})
	}
	g.places[d.roll(replicas)].rights = g.limit
	return g
}

func (g *group) send(me int, m message) {
	p := g.places[me]
	m.from, m.limit, m.recaps = me, p.limit, p.recaps
	g.bag = append(g.bag, m)
}

func (g *group) sendAll(me int, m message) {
	for to := range g.places {
		if to != me {
			m.to = to
			g.send(me, m)
		}
	}
}

func (g *group) yield(me int, target api.Epoch) {
	p := g.places[me]
	g.send(me, message{kind: api.MsgYield, to: target.Rank, epoch: target, rights: p.rights, held: p.held})
	p.rights = 0
}

// begin is rule 8.
func (g *group) begin(t *testing.T, me, op int) {
	p := g.places[me]
	acts, e := p.machine.Begin(p.limit, p.rights, p.held, op != 0)
	if e != api.OK || len(acts) != 1 {
		t.Fatalf("Begin: %+v, %d", acts, e)
	}
	p.op, p.marked, p.reports = op, false, map[int]int{}
	g.begun = append(g.begun, p.machine.Own())
	if acts[0] == mark(p.machine.Own()) {
		p.marked = true
		g.sendAll(me, message{kind: api.MsgMark, epoch: p.machine.Own()})
		return
	}
	wantActs(t, "Begin", acts, decide(p.machine.Own()))
	g.decide(t, me)
}

// do does what the machine asks for: rules 9 and 12.
func (g *group) do(t *testing.T, me int, acts []epoch.Act) {
	p := g.places[me]
	for _, a := range acts {
		switch a.Kind {
		case epoch.ActYield:
			g.yield(me, a.Epoch)
		case epoch.ActOver:
			g.end(t, a.Epoch, gaveUp)
			g.sendAll(me, message{kind: api.MsgOver, epoch: a.Epoch, over: a.Over})
		case epoch.ActQueue:
			p.line = slices.Insert(p.line, 0, p.op)
		case epoch.ActThaw:
		default:
			t.Errorf("nobody has asked for %+v", a)
		}
	}
}

// end notes how an epoch has ended, once.
func (g *group) end(t *testing.T, e api.Epoch, how int) {
	if !slices.Contains(g.begun, e) || g.ended[e] != 0 {
		t.Errorf("%v ends, and was not live", e)
	}
	g.ended[e] = how
	g.count[how]++
}

// hasAll is P1110: all that is not held is at one place, and what is held elsewhere was reported.
func (g *group) hasAll(t *testing.T, me int) {
	p := g.places[me]
	for other, o := range g.places {
		if other != me && (o.rights != 0 || o.held != p.reports[other]) {
			t.Errorf("%v has all, and %d has %d, and holds %d of which %d are reported", p.machine.Own(), other, o.rights, o.held, p.reports[other])
		}
	}
	for _, m := range g.bag {
		if m.rights != 0 {
			t.Errorf("%v has all, and %d are under way", p.machine.Own(), m.rights)
		}
	}
	if p.limit != g.limit {
		t.Errorf("%v has all of %d, the cap is %d", p.machine.Own(), p.limit, g.limit)
	}
}

// decide is rules 10 and 11.
func (g *group) decide(t *testing.T, me int) {
	p := g.places[me]
	g.hasAll(t, me)
	g.serve(me, p.op)
	for len(p.line) > 0 && (p.line[0] == 0 || p.machine.All()) {
		g.serve(me, p.line[0])
		p.line = p.line[1:]
	}
	g.turnHolds(p)
	how := decidedAtOnce
	if p.marked {
		how = decided
	}
	g.end(t, p.machine.Own(), how)
	g.deal(t, me, api.MsgGrant)
}

// serve does one op, with all rights at hand.
func (g *group) serve(me, op int) {
	p := g.places[me]
	if op == 0 || p.rights+op < 0 || p.limit+op < 1 {
		return
	}
	p.rights += op
	p.limit += op
	p.recaps++
	g.limit = p.limit
	g.count[recapped]++
}

// turnHolds makes rights held, or what is held rights.
func (g *group) turnHolds(p *place) {
	k := g.d.roll(p.rights+p.held+1) - p.held
	p.rights -= k
	p.held += k
}

// deal ends the own epoch, and deals out what was gathered.
func (g *group) deal(t *testing.T, me, kind int) {
	p := g.places[me]
	own, total := p.machine.Own(), p.rights
	acts := p.machine.Finish()
	for to := range g.places {
		if to != me && p.marked {
			part := total/len(g.places) + g.d.roll(2)
			part = min(part, p.rights)
			p.rights -= part
			g.send(me, message{kind: kind, to: to, epoch: own, rights: part})
		}
	}
	g.do(t, me, acts)
}

// settle goes on with what a replica can do by itself: rules 9, 10 and 15.
func (g *group) settle(t *testing.T, me int) {
	p := g.places[me]
	for !t.Failed() {
		target := p.machine.Target()
		acts := p.machine.Look(p.limit, p.rights, p.held)
		switch {
		case len(acts) > 0:
			g.decide(t, me)
		case target != none && target != p.machine.Own() && p.rights > 0:
			g.yield(me, target)
		case target != none || len(p.line) == 0:
			return
		default:
			op := p.line[0]
			p.line = p.line[1:]
			g.begin(t, me, op)
		}
	}
}

// take lets one message arrive: rules 9, 12 and 14.
func (g *group) take(t *testing.T, i int) {
	m := g.bag[i]
	g.bag = slices.Delete(g.bag, i, i+1)
	p := g.places[m.to]
	if m.recaps > p.recaps {
		p.limit, p.recaps = m.limit, m.recaps
	}
	switch m.kind {
	case api.MsgMark:
		g.do(t, m.to, p.machine.Hear(m.epoch))
	case api.MsgGrant, api.MsgAbort, api.MsgOver:
		g.do(t, m.to, p.machine.End(m.epoch, m.over))
	}
	p.rights += m.rights
	if m.kind == api.MsgYield {
		if m.epoch == p.machine.Own() {
			p.reports[m.from] = m.held
		}
		wantActs(t, "Report", p.machine.Report(m.from, m.epoch, m.held))
	}
	g.settle(t, m.to)
}

// call is an op of a client: one that is exact, or a hold or a gift where nothing is frozen.
func (g *group) call(t *testing.T, me int) {
	p, frozen := g.places[me], g.places[me].machine.Frozen()
	switch n := g.d.roll(5); {
	case n < 2:
		p.line = append(p.line, 0)
		g.settle(t, me)
	case n == 2:
		p.line = append(p.line, g.d.roll(9)-4)
		g.settle(t, me)
	case n == 3 && !frozen:
		g.turnHolds(p)
	case n == 4 && !frozen:
		k := g.d.roll(p.rights + 1)
		p.rights -= k
		g.send(me, message{kind: api.MsgGive, to: (me + 1 + g.d.roll(len(g.places)-1)) % len(g.places), rights: k})
	}
}

// runOut is rule 13 of the initiator's op.
func (g *group) runOut(t *testing.T, me int) {
	p := g.places[me]
	own := p.machine.Own()
	if own == none {
		return
	}
	g.end(t, own, ranOut)
	g.deal(t, me, api.MsgAbort)
	g.settle(t, me)
}

// conserved: no right is made or lost.
func (g *group) conserved(t *testing.T) {
	sum := 0
	for _, p := range g.places {
		sum += p.rights + p.held
	}
	for _, m := range g.bag {
		sum += m.rights
	}
	if sum != g.limit {
		t.Errorf("there are %d rights of %d", sum, g.limit)
	}
}

// atRest is P1111: when no message is under way, nobody is frozen, and every epoch has had an end.
func (g *group) atRest(t *testing.T) {
	for len(g.bag) > 0 && !t.Failed() {
		g.take(t, g.d.roll(len(g.bag)))
		g.conserved(t)
	}
	for me, p := range g.places {
		if p.machine.Frozen() || len(p.line) > 0 {
			t.Errorf("at rest %d has live %v, and %d ops wait", me, p.machine.Live(), len(p.line))
		}
	}
	for _, e := range g.begun {
		if g.ended[e] == 0 {
			t.Errorf("%v was begun and did not end", e)
		}
	}
}

// run plays clients, deadlines and messages in any order, each message once, and then all that are under way.
func run(t *testing.T, d *dice, steps int, counts *[endings]int) {
	g := grouped(t, d, 2+d.roll(4))
	hurry := 2 + d.roll(8) // how often messages arrive
	for range steps {
		me := d.roll(len(g.places))
		switch {
		case len(g.bag) > 0 && d.roll(hurry+2) > 1:
			g.take(t, d.roll(len(g.bag)))
		case d.roll(6) == 0:
			g.runOut(t, me)
		default:
			g.call(t, me)
		}
		g.conserved(t)
		if t.Failed() {
			return
		}
	}
	g.atRest(t)
	for how, n := range g.count {
		counts[how] += n
	}
}

func TestP1110HasAll(t *testing.T) {
	d := dice(31)
	var counts [endings]int
	for range 600 {
		run(t, &d, 150, &counts)
		if t.Failed() {
			return
		}
	}
	// what is not played is not tested
	for how := decided; how < endings; how++ {
		if counts[how] < 100 {
			t.Errorf("too few of the kind %d: %v", how, counts)
		}
	}
}

// Short scripts, each played to its end: epochs that overtake each other have nothing behind them that would mend it.
func TestP1111AtRest(t *testing.T) {
	d := dice(32)
	var counts [endings]int
	for range 4000 {
		run(t, &d, 1+d.roll(20), &counts)
		if t.Failed() {
			return
		}
	}
	if counts[gaveUp] < 100 {
		t.Errorf("too few were given up: %v", counts)
	}
}
