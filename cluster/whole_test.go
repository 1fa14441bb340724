package cluster_test

import (
	"slices"
	"testing"

	"sluice/api"
	"sluice/names"
)

// someOp is any one, mostly a good one.
func (w *world) someOp() api.Op {
	d := w.d
	o := op(1+d.roll(11), playNames[d.roll(2+d.roll(len(playNames)-1))])
	amount := 1 + d.roll(6)
	switch o.Kind {
	case api.OpCreate:
		o.A, o.B = 5+d.roll(20), d.roll(12)
	case api.OpInc, api.OpDec:
		o.A = amount
	case api.OpHold:
		o.A, o.B = amount, 1+d.roll(8)
	case api.OpCommit, api.OpRelease:
		o.A = w.someHold(o.Name)
	case api.OpTake:
		o.A, o.B = d.roll(12), amount
		if k := w.place[o.Name]; k != nil && d.roll(3) > 0 {
			o.A = k.value
		}
	case api.OpReset:
		o.A = d.roll(20)
	case api.OpRecap:
		o.A = 1 + d.roll(30)
	}
	switch d.roll(60) {
	case 0:
		o.A = []int{-1, api.MaxCap, api.MaxCap + 1}[d.roll(3)]
	case 1:
		o.B = []int{-1, 1, api.MaxCap, api.MaxTicks + 1}[d.roll(4)]
	case 2:
		o.Name = []string{"", "a b", "12345678901234567"}[d.roll(3)]
	case 3:
		o.Kind = []int{0, -1, 12, 13}[d.roll(4)]
	}
	return o
}

func (w *world) someHold(name string) int {
	var numbers []int
	if k := w.place[name]; k != nil {
		for number := range k.holds {
			numbers = append(numbers, number)
		}
	}
	if len(numbers) == 0 || w.d.roll(5) == 0 {
		return 1 + w.d.roll(60)
	}
	slices.Sort(numbers)
	return numbers[w.d.roll(len(numbers))]
}

// session is any one; of an op about a hold mostly one of that hold's replica.
func (w *world) session(o api.Op) int {
	session := w.d.roll(w.c.Sessions)
	if o.Kind == api.OpCommit || o.Kind == api.OpRelease {
		if at := o.A % api.MaxReplicas; at >= 0 && at < w.c.Replicas && at < w.c.Sessions && w.d.roll(4) > 0 {
			session = at
		}
	}
	return session
}

// play does one step: a call, a tick up to a bound, or what may become of frames.
func (w *world) play(most int) {
	w.t.Helper()
	d := w.d
	n := len(w.bag())
	switch x := d.roll(22); {
	case x < 7:
		o := w.someOp()
		w.ask(w.session(o), o, d.roll(4) == 0)
	case x < 8:
		w.misplace()
	case x < 9:
		w.disturb()
	case x < 11:
		if me := d.roll(w.c.Replicas); w.ticked[me] < most {
			w.tickOne(me)
		}
	case n == 0:
	case x < 19:
		w.act(api.Step{Kind: api.StepDeliver, I: d.roll(min(n, 1+d.roll(n)))})
	case x < 20:
		w.act(api.Step{Kind: api.StepDrop, I: d.roll(n)})
	case x < 21 && n < w.c.Bag:
		w.act(api.Step{Kind: api.StepDouble, I: d.roll(n)})
	default:
		w.act(api.Step{Kind: api.StepMove, I: d.roll(n), J: d.roll(n)})
	}
}

// isAtRest: every call is answered, nothing is frozen, no right is under way, and every OpLook is the value.
func (w *world) isAtRest() bool {
	w.t.Helper()
	sights := w.sights()
	for me, s := range sights {
		if len(s.Calls) > 0 || len(s.Stocks) < len(w.place) {
			return false
		}
		for _, k := range s.Stocks {
			if len(k.Live) > 0 || k.About != w.place[k.Name].value {
				return false
			}
		}
		for to := range sights {
			if to != me && slices.ContainsFunc(underWay(w.t, sights, me, to), carries) {
				return false
			}
		}
	}
	return true
}

// inARow is how many letters are delivered ahead of a tick at the most. There must be an end to it: where news that epochs
// have finished is lost among three replicas, rights may be passed on in a ring for ever, till a tick sends it again.
const inARow = 3000

// rest is W3: further ticks and deliveries bring it to rest.
func (w *world) rest() {
	w.t.Helper()
	for range 10 * (w.c.Timeout + w.c.Resend + w.c.Replicas) {
		for n := 0; n < inARow && len(w.bag()) > 0; n++ {
			w.act(api.Step{Kind: api.StepDeliver})
			w.check()
		}
		if w.isAtRest() {
			w.wantRest()
			return
		}
		for me := range w.c.Replicas {
			w.tickOne(me)
			w.check()
		}
	}
	w.t.Fatalf("step %d: it does not come to rest", w.step)
}

// wantRest asserts that all calls are answered, and asks everybody once more what the values are.
func (w *world) wantRest() {
	w.t.Helper()
	for call, p := range w.calls {
		if p.to == 0 {
			w.t.Fatalf("%+v is never answered", call)
		}
	}
	for session := range min(w.c.Sessions, w.c.Replicas) {
		for name, k := range w.place {
			w.ask(session, op(api.OpLook, name), false)
			if r := w.calls[id(session, w.ids[session])].reply; r.Err != api.OK || r.Value != k.value {
				w.t.Fatalf("step %d: OpLook of %q at %d: %+v, want %d", w.step, name, session, r, k.value)
			}
		}
	}
}

// someConfig has a bag that is large enough to come to rest with.
func someConfig(d *dice) api.Config {
	replicas := 2 + d.roll(4)
	window := 1 + d.roll(3)
	return api.Config{
		Replicas: replicas, Window: window, Resend: 1 + d.roll(4), Timeout: 1 + d.roll(30), Queue: 1 + d.roll(5), Cache: 1 + d.roll(4),
		Counters: 1 + d.roll(3), Holds: d.roll(4), Sessions: 2*replicas + d.roll(5), Bag: 2*replicas*(replicas-1)*window + d.roll(10),
	}
}

// Whatever becomes of the frames: each effect is what one place answers, no right is made or lost, what is refused has its
// reason, and at last all comes to rest (W1 to W8).
func TestP1502Whole(t *testing.T) {
	d := dice(1506)
	errs := map[api.Errno]int{}
	for range 60 {
		w := begun(t, someConfig(&d), &d)
		for range 300 {
			w.play(1 << 30)
			w.check()
		}
		w.rest()
		for e, n := range w.errs {
			errs[e] += n
		}
	}
	for _, e := range []api.Errno{
		api.OK, api.ErrArg, api.ErrReplica, api.ErrFrame, api.ErrSum, api.ErrWire, api.ErrRights, api.ErrCap, api.ErrHold, api.ErrHolds, api.ErrNone, api.ErrExists,
		api.ErrCounters, api.ErrMismatch, api.ErrTimeout, api.ErrStale, api.ErrOrder, api.ErrSession, api.ErrPending, api.ErrBusy,
	} {
		if errs[e] < 5 {
			t.Errorf("%d is answered %d times: too little is played", e, errs[e])
		}
	}
}

// The same with a bag that is often full: frames that it has no room for are lost like others.
func TestP1502WholeSmallBag(t *testing.T) {
	d := dice(1507)
	for range 30 {
		c := someConfig(&d)
		c.Bag = 1 + d.roll(3)
		w := begun(t, c, &d)
		for range 300 {
			w.play(1 << 30)
			w.check()
		}
	}
}

// The same with as many replicas as there may be.
func TestP1502WholeMany(t *testing.T) {
	d := dice(1508)
	c := someConfig(&d)
	c.Replicas, c.Window, c.Timeout, c.Sessions, c.Bag = 16, 2, 40, 40, 1024
	w := begun(t, c, &d)
	for range 500 {
		w.play(1 << 30)
		w.check()
	}
	w.rest()
}

// Where no clock has gone on far, no call that is open runs out of time on the way to rest (W3).
func TestP1502WholeInTime(t *testing.T) {
	d := dice(1509)
	for range 40 {
		c := someConfig(&d)
		c.Timeout = 30 + d.roll(30)
		w := begun(t, c, &d)
		for range 200 {
			w.play(c.Timeout - c.Resend - 3)
			w.check()
		}
		before := w.errs[api.ErrTimeout]
		w.rest()
		if n := w.errs[api.ErrTimeout] - before; n != 0 {
			t.Fatalf("%d calls of %+v have run out of time", n, c)
		}
	}
}

// find tells where in the bag the first letter from one replica to another lies that has a message of a kind.
func (w *world) find(from, to, kind int) int {
	w.t.Helper()
	for i, l := range w.bag() {
		if m, there := message(w.t, l.Data); there && l.From == from && l.To == to && m.Kind == kind {
			return i
		}
	}
	w.t.Fatalf("step %d: no message of the kind %d is under way from %d to %d", w.step, kind, from, to)
	return 0
}

func (w *world) passOn(from, to, kind int) {
	w.t.Helper()
	w.act(api.Step{Kind: api.StepDeliver, I: w.find(from, to, kind)})
	w.check()
}

func (w *world) lose(from, to, kind int) {
	w.t.Helper()
	w.act(api.Step{Kind: api.StepDrop, I: w.find(from, to, kind)})
}

// Three replicas each wait for an epoch that has finished, the news of which is lost: what rights there are they pass on in
// a ring, as long as no tick sends the news again. Then it comes to rest (W3).
func TestP1502WholeRing(t *testing.T) {
	d := dice(1510)
	c := config()
	c.Replicas, c.Window, c.Resend, c.Timeout = 3, 4, 10, 3
	w := begun(t, c, &d)
	h := names.Home("k", 3)
	w.ask(h, op(api.OpCreate, "k", 30, 12), false)
	w.ask((h+1)%3, op(api.OpRead, "k"), false) // so all have some of the rights
	w.rest()
	for me := range 3 {
		w.ask(me, op(api.OpRead, "k"), false)
	}
	w.passOn(0, 1, api.MsgMark)
	w.passOn(0, 2, api.MsgMark)
	w.passOn(1, 2, api.MsgMark)
	w.passOn(1, 0, api.MsgMark) // 0 gives up
	w.lose(0, 2, api.MsgOver)
	w.passOn(2, 1, api.MsgMark) // 1 gives up
	w.lose(1, 0, api.MsgOver)
	for range c.Timeout {
		w.tickOne(2) // the time of 2 is over
	}
	w.lose(2, 1, api.MsgAbort)
	for range inARow {
		if len(w.bag()) == 0 {
			t.Fatalf("no right goes round: %+v", w.sights())
		}
		w.act(api.Step{Kind: api.StepDeliver})
		w.check()
	}
	w.rest()
}
