package atom_test

import (
	"testing"

	"sluice/api"
	"sluice/cluster"
)

// asker makes calls at a cluster, and lets frames come as they may.
type asker struct {
	t   *testing.T
	d   dice
	c   api.Config
	all *cluster.Cluster
	ids []int // the last id of each session
}

func asks(t *testing.T, start dice, c api.Config) *asker {
	t.Helper()
	all, e := cluster.New(c)
	if e != api.OK {
		t.Fatalf("New(%+v): %d", c, e)
	}
	return &asker{t: t, d: start, c: c, all: all, ids: make([]int, c.Sessions)}
}

func (a *asker) someOp() api.Op {
	o := op(1+a.d.roll(10), []string{"k", "k", "k", "j", "q"}[a.d.roll(5)])
	amount := 1 + a.d.roll(5)
	switch o.Kind {
	case api.OpCreate:
		o.A, o.B = 5+a.d.roll(20), a.d.roll(12)
	case api.OpInc, api.OpDec:
		o.A = amount
	case api.OpHold:
		o.A, o.B = amount, 1+a.d.roll(8)
	case api.OpCommit, api.OpRelease:
		o.A = (1+a.d.roll(3))*api.MaxReplicas + a.d.roll(a.c.Replicas)
	case api.OpTake:
		o.A, o.B = a.d.roll(10), amount
	case api.OpReset:
		o.A = a.d.roll(20)
	case api.OpRecap:
		o.A = 1 + a.d.roll(30)
	}
	return o
}

// step is a call, a tick, or what becomes of a frame.
func (a *asker) step() api.Step {
	i := a.d.roll(6)
	switch x := a.d.roll(20); {
	case x < 6:
		o := a.someOp()
		session := a.d.roll(a.c.Sessions)
		if o.Kind == api.OpCommit || o.Kind == api.OpRelease {
			session = o.A % api.MaxReplicas // a hold ends where it was made
		}
		a.ids[session]++
		return api.Step{
			Kind: api.StepCall, Replica: session % a.c.Replicas, Call: api.Call{Session: session, Id: a.ids[session]}, Op: o,
		}
	case x < 8:
		return api.Step{Kind: api.StepTick, Replica: a.d.roll(a.c.Replicas)}
	case x < 9:
		return api.Step{Kind: api.StepDrop, I: i}
	case x < 10:
		return api.Step{Kind: api.StepDouble, I: i}
	case x < 11:
		return api.Step{Kind: api.StepMove, I: i}
	}
	return api.Step{Kind: api.StepDeliver}
}

// What the replicas answer is, in the order of the witness, what the map answers (W1).
func TestP1603Witness(t *testing.T) {
	kinds, errs := map[int]int{}, map[api.Errno]int{}
	for start := range dice(60) {
		c := api.Config{
			Replicas: 2 + int(start%3), Window: 3, Resend: 2, Timeout: 30, Queue: 6, Cache: 4, Counters: 3, Holds: 3, Sessions: 8, Bag: 200,
		}
		a := asks(t, start, c)
		for range 600 {
			a.all.Do(a.step())
		}
		m := made(t)
		for i, e := range a.all.Do(api.Step{Kind: api.StepWitness}).Witness {
			kinds[e.Op.Kind]++
			errs[e.Err]++
			if !m.Allows(e) {
				t.Fatalf("start %d: the map does not allow the effect %d, %+v", start, i, e)
			}
		}
	}
	for _, kind := range []int{1, 2, 3, 4, 5, 6, 7, 8, 9, 10, 12} {
		if kinds[kind] == 0 {
			t.Errorf("no effect of the kind %d: %v", kind, kinds)
		}
	}
	for _, e := range []api.Errno{api.OK, api.ErrRights, api.ErrCap, api.ErrHold, api.ErrNone, api.ErrExists, api.ErrMismatch} {
		if errs[e] == 0 {
			t.Errorf("no effect with %d: %v", e, errs)
		}
	}
}
