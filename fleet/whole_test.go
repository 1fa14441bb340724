package fleet_test

import (
	"slices"
	"testing"

	"sluice/api"
	"sluice/holds"
)

// someOp is any good one.
func (w *world) someOp() api.Op {
	d := w.d
	o := op(1+d.roll(12), playNames[d.roll(2+d.roll(len(playNames)-1))])
	amount := 1 + d.roll(6)
	switch o.Kind {
	case api.OpCreate, 12:
		o.Kind, o.A, o.B = api.OpCreate, 5+d.roll(20), d.roll(12)
	case api.OpInc, api.OpDec:
		o.A = amount
	case api.OpHold:
		o.A, o.B = amount, 1+d.roll(8)
	case api.OpCommit, api.OpRelease:
		o.A = w.someHold()
	case api.OpTake:
		o.A, o.B = d.roll(12), amount
		if value, _, _, there := w.one.Peek(o.Name); there && d.roll(3) > 0 {
			o.A = value
		}
	case api.OpReset:
		o.A = d.roll(20)
	case api.OpRecap:
		o.A = 1 + d.roll(30)
	}
	return o
}

// someHold is mostly one that was made.
func (w *world) someHold() int {
	var numbers []int
	for _, e := range w.seen {
		if e.Op.Kind == api.OpHold && e.Err == api.OK {
			numbers = append(numbers, e.Value)
		}
	}
	if len(numbers) == 0 || w.d.roll(5) == 0 {
		return 1 + w.d.roll(60)
	}
	return numbers[max(0, len(numbers)-1-w.d.roll(3))]
}

// someCall is the next one of a session, or the last one again, if it may not have come.
func (w *world) someCall() {
	w.t.Helper()
	o := w.someOp()
	session := w.d.roll(w.c.Sessions)
	if o.Kind == api.OpCommit || o.Kind == api.OpRelease {
		if at := holds.Of(o.A); at < w.c.Replicas && w.d.roll(4) > 0 {
			session = at
		}
	}
	call := id(session, w.last[session]+1)
	if w.unsure[session] {
		call.Id--
		o = w.history[w.place[call]].Op
	}
	step := api.Step{Kind: api.StepCall, Replica: session % w.c.Replicas, Call: call, Op: o}
	if w.d.roll(4) == 0 {
		step = api.Step{Kind: api.StepRequest, Replica: step.Replica, Data: requested(w.t, call, o)}
	}
	w.ask(step)
}

// play does one step: a call, a tick up to a bound, what may become of frames, or of a power.
func (w *world) play(most int) {
	w.t.Helper()
	d := w.d
	n := len(w.bag())
	me := d.roll(w.c.Replicas)
	switch x := d.roll(26); {
	case x < 7:
		w.someCall()
	case x < 8:
		w.again()
	case x < 9:
		w.disturb()
	case x < 11 && w.ticked[me] < most:
		w.tickOne(me)
	case x < 12:
		w.act(api.Step{Kind: api.StepCrash, Replica: me}, api.OK)
	case x < 14:
		w.arm(me, d.roll(6)-1, []int{0, 9, 511, 512, 512, 512}[d.roll(6)])
	case x < 17:
		w.raise(me)
	case n == 0:
	case x < 23:
		w.act(api.Step{Kind: api.StepDeliver, I: d.roll(min(n, 1+d.roll(n)))}, api.OK)
	case x < 24:
		w.act(api.Step{Kind: api.StepDrop, I: d.roll(n)}, api.OK)
	case x < 25 && n < w.c.Bag:
		w.act(api.Step{Kind: api.StepDouble, I: d.roll(n)}, api.OK)
	default:
		w.act(api.Step{Kind: api.StepMove, I: d.roll(n), J: d.roll(n)}, api.OK)
	}
}

// someConfig has a bag that is large enough to come to rest with.
func someConfig(d *dice) api.Config {
	replicas := 2 + d.roll(3)
	window := 1 + d.roll(3)
	return api.Config{
		Replicas: replicas, Window: window, Resend: 1 + d.roll(4), Timeout: 2 + d.roll(20), Queue: 1 + d.roll(5), Cache: 1 + d.roll(4),
		Counters: 1 + d.roll(3), Holds: d.roll(4), Sessions: 2*replicas + d.roll(5), Bag: 2*replicas*(replicas-1)*window + d.roll(10),
	}
}

// Whatever becomes of the frames and of the powers: the witness explains all answers, no right is made or lost, nothing is
// done twice, and with restarts all comes to rest (W10).
func TestP2302Whole(t *testing.T) {
	d := dice(2307)
	errs := map[api.Errno]int{}
	downs, saved := 0, 0
	for range 30 {
		w := worldOf(t, someConfig(&d), &d)
		for i := range 250 {
			w.play(1 << 30)
			if i%3 == 0 { // not each time: to see one that is down takes a while
				w.check()
			}
		}
		w.verify()
		w.rest()
		for e, n := range w.errs {
			errs[e] += n
		}
		downs, saved = downs+w.downs, saved+w.saved
	}
	for _, e := range []api.Errno{
		api.OK, api.ErrDown, api.ErrReplica, api.ErrFrame, api.ErrWire, api.ErrRights, api.ErrCap, api.ErrHold, api.ErrHolds, api.ErrNone, api.ErrExists,
		api.ErrCounters, api.ErrMismatch, api.ErrTimeout, api.ErrStale, api.ErrPending, api.ErrBusy,
	} {
		if errs[e] == 0 {
			t.Errorf("%d is never answered: too little is played", e)
		}
	}
	if downs < 50 || saved < 10 {
		t.Errorf("%d powers have failed in calls, %d at all with effects: too little is played", downs, saved)
	}
}

// The same with as many replicas as there may be.
func TestP2302WholeMany(t *testing.T) {
	d := dice(2308)
	c := someConfig(&d)
	c.Replicas, c.Window, c.Timeout, c.Sessions, c.Bag = 16, 2, 40, 40, 1024
	w := worldOf(t, c, &d)
	for i := range 300 {
		w.play(1 << 30)
		if i%10 == 0 {
			w.check()
		}
	}
	w.rest()
}

// Where no clock has gone on far, and no power fails any more, no call that is open runs out of time on the way to rest (W3).
func TestP2302WholeInTime(t *testing.T) {
	d := dice(2309)
	for range 25 {
		c := someConfig(&d)
		c.Timeout = 25 + d.roll(20)
		w := worldOf(t, c, &d)
		for range 200 {
			w.play(c.Timeout - c.Resend - 3)
		}
		for me := range c.Replicas {
			w.arm(me, -1, 0)
		}
		at := w.step
		w.rest()
		if i := slices.IndexFunc(w.history, func(p api.Past) bool { return p.To > at && p.Err == api.ErrTimeout }); i >= 0 {
			t.Fatalf("%+v has run out of time, behind step %d", w.history[i], at)
		}
	}
}
