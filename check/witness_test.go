package check_test

import (
	"slices"
	"testing"

	"sluice/api"
	"sluice/check"
	"sluice/cluster"
)

// asker makes calls at a cluster, lets frames come as they may, and notes the history.
type asker struct {
	t       *testing.T
	d       dice
	c       api.Config
	all     *cluster.Cluster
	steps   int
	ids     []int // the last id of each session
	history []api.Past
	last    api.Step // the last call
}

func asks(t *testing.T, start dice) *asker {
	t.Helper()
	c := api.Config{
		Replicas: 2 + int(start%3), Window: 3, Resend: 2, Timeout: 15, Queue: 6, Cache: 4, Counters: 3, Holds: 3, Sessions: 8, Bag: 200,
	}
	all, e := cluster.New(c)
	if e != api.OK {
		t.Fatalf("New(%+v): %d", c, e)
	}
	return &asker{t: t, d: start, c: c, all: all, ids: make([]int, c.Sessions)}
}

// do takes a step, and notes what it tells of calls. A call that comes again is none of its own.
func (a *asker) do(s api.Step) {
	a.steps++
	answer := a.all.Do(s)
	if s.Kind == api.StepCall && answer.Err == api.OK && a.find(s.Call) == nil {
		a.history = append(a.history, api.Past{Call: s.Call, Op: s.Op, From: a.steps, To: -1})
	}
	for _, r := range answer.Replies {
		p := a.find(r.Call)
		if p == nil {
			a.t.Fatalf("a reply to nobody: %+v", r)
		}
		if p.To == -1 {
			p.To, p.Err, p.Value = a.steps, r.Err, r.Value
		}
	}
}

func (a *asker) find(call api.Call) *api.Past {
	i := slices.IndexFunc(a.history, func(p api.Past) bool { return p.Call == call })
	if i < 0 {
		return nil
	}
	return &a.history[i]
}

func (a *asker) someOp() api.Op {
	o := opOf([]string{"k", "k", "k", "j", "q"}[a.d.roll(5)], 1+a.d.roll(11))
	amount := 1 + a.d.roll(5)
	switch o.Kind {
	case api.OpCreate:
		o.A, o.B = 5+a.d.roll(20), a.d.roll(12)
	case api.OpInc, api.OpDec:
		o.A = amount
	case api.OpHold:
		o.A, o.B = amount, 1+a.d.roll(8)
	case api.OpCommit, api.OpRelease:
		o.A = (1+a.d.roll(3))*api.MaxReplicas + a.d.roll(a.c.Replicas)
	case api.OpTake:
		o.A, o.B = a.d.roll(10), amount
	case api.OpReset:
		o.A = a.d.roll(20)
	case api.OpRecap:
		o.A = 1 + a.d.roll(30)
	}
	return o
}

// ask lets a session make a call; one that ends a hold is made where the hold was.
func (a *asker) ask(o api.Op) {
	session := a.d.roll(a.c.Sessions)
	if o.Kind == api.OpCommit || o.Kind == api.OpRelease {
		session = o.A % api.MaxReplicas
	}
	a.ids[session]++
	a.last = api.Step{Kind: api.StepCall, Replica: session % a.c.Replicas, Call: api.Call{Session: session, Id: a.ids[session]}, Op: o}
	a.do(a.last)
}

// drift is a tick, or what becomes of a frame.
func (a *asker) drift() {
	i := a.d.roll(6)
	switch x := a.d.roll(16); {
	case x < 4:
		a.do(api.Step{Kind: api.StepTick, Replica: a.d.roll(a.c.Replicas)})
	case x < 5:
		a.do(api.Step{Kind: api.StepDrop, I: i})
	case x < 6:
		a.do(api.Step{Kind: api.StepDouble, I: i})
	case x < 7:
		a.do(api.Step{Kind: api.StepMove, I: i})
	default:
		a.do(api.Step{Kind: api.StepDeliver})
	}
}

func (a *asker) witness() []api.Effect {
	a.steps++
	return a.all.Do(api.Step{Kind: api.StepWitness}).Witness
}

// The witness of a cluster explains its history (W1), at the end and on the way.
func TestP1704Witness(t *testing.T) {
	kinds, errs := map[int]int{}, tally{}
	for start := range dice(60) {
		a := asks(t, start)
		for i := range 800 {
			switch x := a.d.roll(20); {
			case x < 5:
				a.ask(a.someOp())
			case x < 6:
				a.do(a.last)
			default:
				a.drift()
			}
			if i%100 == 0 {
				wantVerify(t, a.history, a.witness(), 0, api.OK)
			}
		}
		effects := a.witness()
		wantVerify(t, a.history, effects, 0, api.OK)
		wantConsequence(t, a.history, effects)
		for _, e := range effects {
			kinds[e.Op.Kind]++
		}
		for _, p := range a.history {
			errs[p.Err]++
		}
	}
	for _, kind := range []int{1, 2, 3, 4, 5, 6, 7, 8, 9, 10, 12} {
		if kinds[kind] == 0 {
			t.Errorf("no effect of the kind %d: %v", kind, kinds)
		}
	}
	errs.want(t, 1, api.OK, api.ErrRights, api.ErrCap, api.ErrHold, api.ErrNone, api.ErrExists, api.ErrMismatch, api.ErrTimeout, api.ErrBusy)
}

// One thing of a cluster's witness is turned: what the chapter says of that.
func TestP1703Spoiled(t *testing.T) {
	came := tally{}
	for start := range dice(40) {
		a := asks(t, 100+start)
		for range 300 {
			if a.d.roll(3) == 0 {
				a.ask(a.someOp())
			}
			a.drift()
		}
		effects := a.witness()
		for range 40 {
			src := source(a.d.bytes(20))
			p := &place{src: &src, step: a.steps, history: slices.Clone(a.history), effects: slices.Clone(effects)}
			if src.pick(3) == 0 {
				p.spoilPast()
			} else {
				p.spoilEffect()
			}
			number, err := verified(p.history, p.effects)
			if n, e := check.Verify(p.history, p.effects); n != number || e != err {
				t.Errorf("start %d: Verify: %d, %d, want %d, %d", start, n, e, number, err)
			}
			came[err]++
		}
	}
	came.want(t, 100, api.OK, api.ErrWitness)
}

// A few calls at a cluster, without holds: there is an order.
func TestP1706Witness(t *testing.T) {
	lost := 0
	for start := range dice(300) {
		a := asks(t, 1000+start)
		a.ask(op(api.OpCreate, 5+a.d.roll(20), a.d.roll(6)))
		for len(a.history) < api.MaxSearch {
			if o := a.someOp(); o.Kind != api.OpHold {
				a.ask(o)
			}
			for range a.d.roll(12) {
				a.drift()
			}
		}
		effects := a.witness()
		wantVerify(t, a.history, effects, 0, api.OK)
		wantSought(t, a.history, effects)
		for _, p := range a.history {
			if !isAnswered(p) {
				lost++
			}
		}
	}
	if lost < 100 {
		t.Errorf("%d calls without an answer", lost)
	}
}
