package fleet_test

import (
	"fmt"
	"reflect"
	"testing"

	"sluice/api"
)

// story is a script in which each kind of input does much: two replicas, calls of both, holds that end, epochs that are
// decided, given up and aborted, rights that are wanted and given.
func story(t *testing.T) []api.Step {
	h, o := home()
	var steps []api.Step
	deliver := func(n int) {
		for range n {
			steps = append(steps, api.Step{Kind: api.StepDeliver})
		}
	}
	tick := func(list ...int) {
		for _, me := range list {
			steps = append(steps, api.Step{Kind: api.StepTick, Replica: me})
		}
	}
	call := func(me, number, kind int, ab ...int) { steps = append(steps, asked(me, number, kind, ab...)) }
	call(h, 1, api.OpCreate, 10, 4)
	call(o, 1, api.OpDec, 1)
	deliver(4)
	tick(h)
	deliver(2)
	tick(o)
	deliver(6)
	call(o, 2, api.OpDec, 1)
	call(h, 2, api.OpHold, 2, 3)
	call(h, 3, api.OpRead)
	call(o, 3, api.OpRead)
	deliver(12)
	call(h, 4, api.OpRelease, 16+h)
	call(o, 4, api.OpRecap, 14)
	deliver(2)
	call(h, 5, api.OpInc, 1)
	deliver(8)
	call(h, 6, api.OpHold, 1, 1)
	tick(h, h)
	steps = append(steps, api.Step{Kind: api.StepFrame, Replica: o, Data: []byte("no frame")})
	steps = append(steps, api.Step{Kind: api.StepRequest, Replica: h, Data: requested(t, id(h, 7), op(api.OpInc, "k", 1))})
	call(o, 5, api.OpTake, 4, 1)
	tick(o, o, o, o, o, o, o)
	deliver(4)
	return steps
}

func storyConfig() api.Config {
	c := config()
	c.Timeout = 6
	return c
}

// begin plays the first steps of a story.
func begin(t *testing.T, steps []api.Step) *world {
	t.Helper()
	d := dice(1)
	w := worldOf(t, storyConfig(), &d)
	for _, s := range steps {
		w.take(s)
	}
	return w
}

func (w *world) take(s api.Step) api.Answer {
	w.t.Helper()
	switch s.Kind {
	case api.StepCall, api.StepRequest:
		return w.ask(s)
	case api.StepTick:
		w.ticked[s.Replica]++
	}
	return w.act(s, api.OK, api.ErrVersion, api.ErrIndex)
}

func isCall(s api.Step) bool { return s.Kind == api.StepCall || s.Kind == api.StepRequest }

// whose tells to which replica a step brings an input; false: to none.
func (w *world) whose(s api.Step) (int, bool) {
	if s.Kind != api.StepDeliver {
		return s.Replica, true
	}
	bag := w.bag()
	if len(bag) == 0 {
		return 0, false
	}
	return bag[0].To, true
}

// The power fails in each step of the story, in its one sector: the replica is to be seen as ahead of the step, or as
// behind it; what it was about to send and to reply is lost. Then the story goes on, and comes to rest.
func TestP2302PowerAtEachStep(t *testing.T) {
	steps := story(t)
	whole := begin(t, steps)
	whole.rest()
	if n, late := len(whole.seen), whole.errs[api.ErrTimeout]; n != 11 || late != 1 {
		t.Errorf("%d effects, %d calls too late: another story happens", n, late)
	}
	for i, step := range steps {
		for _, torn := range []int{0, 300, 511, 512} {
			w := begin(t, steps[:i])
			me, there := w.whose(step)
			if !there {
				continue
			}
			t.Run(fmt.Sprint(i, "/", torn), func(t *testing.T) {
				w.t = t
				failAt(w, steps, i, me, torn)
			})
		}
	}
}

func failAt(w *world, steps []api.Step, i, me, torn int) {
	w.t.Helper()
	want := w.see(me)
	effects := len(w.seen)
	if torn == 512 {
		behind := begin(w.t, steps[:i+1])
		want, effects = behind.see(me), len(behind.seen)
	}
	n := len(w.bag())
	if steps[i].Kind == api.StepDeliver {
		n--
	}
	w.arm(me, 0, torn)
	if a := w.take(steps[i]); !reflect.DeepEqual(a, api.Answer{Err: api.ErrDown}) {
		w.t.Fatalf("the power fails: %+v", a)
	}
	if len(w.seen) != effects || len(w.bag()) != n {
		w.t.Errorf("%d effects, %d letters; want %d, %d", len(w.seen), len(w.bag()), effects, n)
	}
	w.wantSight("down", me, false, want)
	w.raise(me)
	w.wantSight("restarted", me, true, want)
	w.check()
	goOn(w, steps[i:])
}

// goOn plays the rest of a story: its first step comes again, if a client can let it.
func goOn(w *world, steps []api.Step) {
	w.t.Helper()
	if isCall(steps[0]) {
		w.take(steps[0])
	}
	for _, s := range steps[1:] {
		w.take(s)
		w.check()
	}
	w.verify()
	w.rest()
}

// The power fails at two places of the story, in any way, and replicas stay down for a while.
func TestP2302PowerTwice(t *testing.T) {
	steps := story(t)
	d := dice(2310)
	for range 60 {
		w := begin(t, nil)
		i, j, k := d.roll(len(steps)), d.roll(len(steps)), d.roll(len(steps))
		for n, s := range steps {
			if n == i || n == j {
				w.arm(d.roll(2), d.roll(3), []int{0, 8, 511, 512, 512}[d.roll(5)])
			}
			a := w.take(s)
			if n == k || a.Err == api.ErrDown && isCall(s) {
				w.raise(0)
				w.raise(1)
			}
			for a.Err == api.ErrDown && isCall(s) {
				a = w.take(s)
				w.raise(s.Replica)
			}
			w.check()
		}
		w.verify()
		w.rest()
	}
}
