package sluice_test

import (
	"bytes"
	"slices"
	"sort"
	"testing"

	"sluice/api"
	"sluice/atom"
	"sluice/cluster"
	"sluice/sluice"
	"sluice/wire"
)

// source tells bytes one by one, and 0 behind their end.
type source []byte

func (s *source) next(n int) int {
	if len(*s) == 0 {
		return 0
	}
	b := int((*s)[0])
	*s = (*s)[1:]
	return b % n
}

func (s *source) take(n int) []byte {
	n = min(n, len(*s))
	b := (*s)[:n:n]
	*s = (*s)[n:]
	return b
}

// maker makes steps of bytes, some of them by what the cluster is like then.
type maker struct {
	*source
	c      api.Config
	all    *cluster.Cluster
	honest bool        // it hands in no frame that opens
	ids    map[int]int // the last id that each session was given
}

var someNames = []string{"a", "b", "c", "d", "i", "k", "q"}

func (g *maker) letters() []api.Letter { return g.all.Do(api.Step{Kind: api.StepBag}).Bag }

func (g *maker) index() int { return g.next(len(g.letters())+2) - 1 }

func (g *maker) replica() int {
	if g.next(30) == 0 {
		return []int{-1, g.c.Replicas, 1 << 40}[g.next(3)]
	}
	return g.next(g.c.Replicas)
}

func (g *maker) call(me int) api.Call {
	session := me + g.c.Replicas*g.next(3)
	if g.next(12) == 0 {
		return api.Call{Session: g.next(8) - 1, Id: g.next(4)}
	}
	g.ids[session]++
	return api.Call{Session: session, Id: g.ids[session]}
}

func (g *maker) op() api.Op {
	amounts := []int{0, 1, 1, 2, 3, 5, 8, 10, 12, 16, 17, 18, 20, 33, api.MaxCap, -1}
	o := op(1+g.next(12), someNames[g.next(1+g.next(len(someNames)))], amounts[g.next(len(amounts))])
	switch o.Kind {
	case api.OpCreate:
		o.A, o.B = 4+g.next(20), g.next(9)
	case api.OpHold, api.OpTake:
		o.B = 1 + g.next(6)
	case api.OpRead, api.OpLook:
		o.A = 0
	}
	return o
}

// forge is a frame from nowhere that opens.
func (g *maker) forge(t *testing.T, me int) []byte {
	at := g.next(g.c.Replicas)
	s := api.Segment{From: at, To: me, Ack: g.next(2)}
	if me < 0 || me >= g.c.Replicas {
		s.To = 0
	} else if at != me {
		s.Seq, s.Data = g.all.Do(api.Step{Kind: api.StepSee, Replica: me}).Sight.Next[at]+g.next(3)/2, g.message()
	}
	return sealed(t, s)
}

func (g *maker) message() []byte {
	m := api.Msg{Kind: 3 + g.next(7), Name: someNames[g.next(len(someNames))], Cap: 5 + g.next(9), Recaps: g.next(2)}
	if m.Kind <= api.MsgOver {
		m.Epoch = epochOf(1+g.next(4), g.next(g.c.Replicas))
	}
	switch m.Kind {
	case api.MsgOver:
		m.Over = epochOf(1+g.next(5), g.next(g.c.Replicas))
	case api.MsgYield, api.MsgGrant, api.MsgAbort, api.MsgGive, api.MsgWant:
		m.Rights = rights(g.next(5), g.next(5))
	}
	data, e := wire.Encode(m)
	if e != api.OK {
		return []byte{1, 2}
	}
	return data
}

func (g *maker) step(t *testing.T) api.Step {
	me := g.replica()
	s := api.Step{Kind: g.next(30), Replica: me, I: g.index(), J: g.index()}
	switch {
	case s.Kind > 26:
		s.Kind, s.I = api.StepDeliver, 0
	case s.Kind > 24:
		s.Kind = api.StepDeliver
	case s.Kind > 18:
		s.Kind = api.StepCall
	case s.Kind > 15:
		s.Kind = api.StepTick
	}
	switch s.Kind {
	case api.StepCall:
		s.Call, s.Op = g.call(me), g.op()
	case api.StepRequest:
		s.Data = g.take(g.next(9))
		if g.next(3) > 0 {
			if data, e := wire.EncodeRequest(g.call(me), g.op()); e == api.OK {
				s.Data = data
			}
		}
	case api.StepFrame:
		s.Data = g.take(g.next(12))
		if !g.honest && g.next(3) > 0 {
			s.Data = g.forge(t, me)
		}
	}
	return s
}

func (g *maker) config() api.Config {
	replicas := 2 + g.next(4)
	return api.Config{
		Replicas: replicas, Window: 1 + g.next(3), Resend: 1 + g.next(3), Timeout: 1 + g.next(30), Queue: 1 + g.next(4), Cache: 1 + g.next(3),
		Counters: 1 + g.next(3), Holds: g.next(3), Sessions: 1 + g.next(3*replicas), Bag: 1 + g.next(120),
	}
}

// scriptOf is the config and the steps that bytes say, and the cluster behind them.
func scriptOf(t *testing.T, in []byte, honest bool) (api.Config, []api.Step, *cluster.Cluster) {
	t.Helper()
	rest := source(bytes.Clone(in))
	g := &maker{source: &rest, honest: honest, ids: map[int]int{}}
	g.c = g.config()
	g.all = made(t, g.c)
	var steps []api.Step
	for len(rest) > 0 {
		s := g.step(t)
		steps = append(steps, s)
		g.all.Do(s)
	}
	return g.c, steps, g.all
}

func isLook(s api.Step) bool {
	return s.Kind >= api.StepSee && s.Kind <= api.StepWitness || s.Kind == api.StepImage
}

// fewLooks takes looks out till there are as many as may be.
func fewLooks(steps []api.Step) []api.Step {
	n := 0
	return slices.DeleteFunc(slices.Clone(steps), func(s api.Step) bool {
		if isLook(s) {
			n++
		}
		return isLook(s) && n > api.MaxLooks
	})
}

func sightsOf(all *cluster.Cluster, c api.Config) []api.Sight {
	var list []api.Sight
	for me := range c.Replicas {
		list = append(list, all.Do(api.Step{Kind: api.StepSee, Replica: me}).Sight)
	}
	return list
}

// atRest is P1902's, word by word.
func atRest(all *cluster.Cluster, c api.Config) bool {
	if len(all.Do(api.Step{Kind: api.StepBag}).Bag) > 0 {
		return false
	}
	know, down, about := map[string]int{}, map[string]int{}, map[string][]int{}
	for _, s := range sightsOf(all, c) {
		if len(s.Calls) > 0 {
			return false
		}
		for to := range c.Replicas {
			if len(s.Out[to])+len(s.Under[to]) > 0 {
				return false
			}
		}
		for _, k := range s.Stocks {
			if len(k.Live) > 0 {
				return false
			}
			know[k.Name]++
			down[k.Name] += k.Rights.Down + k.Got.Down
			about[k.Name] = append(about[k.Name], k.About)
		}
	}
	for name, n := range know {
		if n != c.Replicas {
			return false
		}
		for _, a := range about[name] {
			if a != down[name] {
				return false
			}
		}
	}
	return true
}

// settling is what P1902 says, one step behind the other; false: it comes to no rest.
func settling(all *cluster.Cluster, c api.Config) ([]api.Step, bool) {
	var steps []api.Step
	do := func(s api.Step) {
		steps = append(steps, s)
		all.Do(s)
	}
	empty := func() {
		for len(all.Do(api.Step{Kind: api.StepBag}).Bag) > 0 {
			do(api.Step{Kind: api.StepDeliver})
		}
	}
	empty()
	for round := 0; round < 20000; round++ {
		if atRest(all, c) {
			return steps, true
		}
		for me := 0; me < c.Replicas; me++ {
			do(api.Step{Kind: api.StepTick, Replica: me})
			empty()
		}
	}
	return nil, false
}

// auditing is what P1903 says, name by name.
func auditing(all *cluster.Cluster, c api.Config) [][]int {
	sights := sightsOf(all, c)
	var list []string
	for _, s := range sights {
		for _, k := range s.Stocks {
			if !slices.Contains(list, k.Name) {
				list = append(list, k.Name)
			}
		}
	}
	sort.Strings(list)
	var rows [][]int
	for _, name := range list {
		r := make([]int, 8)
		most := -1
		for _, s := range sights {
			for _, k := range s.Stocks {
				if k.Name != name {
					continue
				}
				if k.Recaps > most {
					most, r[0] = k.Recaps, k.Cap
				}
				for i, n := range []int{k.Rights.Down, k.Rights.Up, k.Got.Down, k.Got.Up, k.Held} {
					r[1+i] += n
				}
			}
		}
		for _, m := range moving(sights) {
			if m.Name == name {
				r[6] += m.Rights.Down
				r[7] += m.Rights.Up
			}
		}
		rows = append(rows, r)
	}
	return rows
}

// moving is all messages with rights that have not arrived.
func moving(sights []api.Sight) []api.Msg {
	var list []api.Msg
	add := func(m api.Msg) {
		switch m.Kind {
		case api.MsgYield, api.MsgGrant, api.MsgAbort, api.MsgGive:
			list = append(list, m)
		}
	}
	for me, s := range sights {
		for to, out := range s.Out {
			for _, m := range out {
				add(m)
			}
			for _, g := range s.Under[to] {
				if g.Seq < sights[to].Next[me] {
					continue
				}
				if m, _, e := wire.Decode(g.Data); e == api.OK {
					add(m)
				}
			}
		}
	}
	return list
}

// settleAlike asserts that Settle and Audit tell what the models do, and what must hold of that.
func settleAlike(t *testing.T, in []byte) {
	t.Helper()
	c, steps, _ := scriptOf(t, in, true)
	if steps = fewLooks(steps); len(steps) > api.MaxSteps {
		steps = steps[:api.MaxSteps]
	}
	all := made(t, c)
	for _, s := range steps {
		all.Do(s)
	}
	wantAudit(t, "any script", c, steps, auditing(all, c)...)
	wantConserved(t, c, steps, all)
	want, rests := settling(all, c)
	if !rests {
		if c.Bag >= 2*c.Replicas*(c.Replicas-1)*c.Window {
			t.Fatalf("%+v: no rest behind %+v", c, steps)
		}
		if l, e := sluice.Settle(c, steps); e != api.ErrLong || len(l) != 0 {
			t.Fatalf("no rest: %d, %d", len(l), e)
		}
		return
	}
	wantSettle(t, "any script", c, steps, want...)
	wantRest(t, c, behind(steps, want))
}

// wantConserved is W2: each row adds up to its cap, and to the value and what is held by the witness.
func wantConserved(t *testing.T, c api.Config, steps []api.Step, all *cluster.Cluster) {
	t.Helper()
	one := atom.New()
	for i, f := range all.Do(api.Step{Kind: api.StepWitness}).Witness {
		if !one.Allows(f) {
			t.Fatalf("the effect %d, %+v, is none", i, f)
		}
	}
	rows, e := sluice.Audit(c, steps)
	list := one.Names()
	if e != api.OK || len(rows) != len(list) {
		t.Fatalf("Audit: %d, %v; there are %v", e, rows, list)
	}
	for i, name := range list {
		value, held, limit, _ := one.Peek(name)
		r := rows[i]
		if r[0] != limit || r[1]+r[3]+r[6] != value || r[5] != held || r[2]+r[4]+r[7] != limit-value-held {
			t.Fatalf("%s is %v; by the witness the value %d, held %d, the cap %d", name, r, value, held, limit)
		}
	}
}

// wantRest is W3, behind steps that bring to rest: there is nothing more to do, and nothing is gathered or under way.
func wantRest(t *testing.T, c api.Config, steps []api.Step) {
	t.Helper()
	if len(steps) > api.MaxSteps {
		return
	}
	wantSettle(t, "at rest", c, steps)
	rows, _ := sluice.Audit(c, steps)
	for _, r := range rows {
		if r[3]+r[4]+r[6]+r[7] != 0 || r[1]+r[2]+r[5] != r[0] {
			t.Errorf("at rest: %v", r)
		}
	}
}

func TestP1902AsTheModel(t *testing.T) {
	d := dice(1902)
	for range 300 {
		settleAlike(t, d.bytes(d.roll(3000)))
	}
}

// Frames from nowhere that open: the same numbers are told, whatever they add up to.
func TestP1903FramesFromNowhere(t *testing.T) {
	d := dice(1903)
	uneven := 0
	for range 300 {
		c, steps, _ := scriptOf(t, d.bytes(d.roll(3000)), false)
		steps = fewLooks(steps)
		all := made(t, c)
		for _, s := range steps {
			all.Do(s)
		}
		rows := auditing(all, c)
		wantAudit(t, "any script", c, steps, rows...)
		for _, r := range rows {
			if r[1]+r[2]+r[3]+r[4]+r[5]+r[6]+r[7] != r[0] {
				uneven++
			}
		}
	}
	if uneven < 100 {
		t.Errorf("%d rows do not add up", uneven)
	}
}

func FuzzSettle(f *testing.F) {
	f.Add([]byte{})
	f.Add([]byte("\x00\x01\x01\x09\x03\x01\x01\x01\x03\x20\x00\x10\x05\x00\x01\x00\x00\x01\x00\x06\x03"))
	f.Add(bytes.Repeat([]byte{0, 19, 1, 3, 9, 200, 77, 16}, 60))
	f.Fuzz(settleAlike)
}
