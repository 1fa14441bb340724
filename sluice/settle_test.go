package sluice_test

import (
	"slices"
	"testing"

	"sluice/api"
	"sluice/names"
	"sluice/sluice"
)

func TestP1902Refused(t *testing.T) {
	wantRefused(t, "no config", api.Config{}, nil, api.ErrArg)
	wrong := config()
	wrong.Window = 0
	looks := make([]api.Step, api.MaxLooks+1)
	for i := range looks {
		looks[i].Kind = api.StepWitness
	}
	steps := make([]api.Step, api.MaxSteps+1)
	wantRefused(t, "no config, and too many steps", wrong, steps, api.ErrArg)
	wantRefused(t, "no config, and too many looks", wrong, looks, api.ErrArg)
	wantRefused(t, "too many steps", config(), steps, api.ErrLong)
	wantRefused(t, "too many looks", config(), looks, api.ErrLong)
	wantSettle(t, "as many steps as may be", config(), steps[1:])
	wantAudit(t, "as many steps as may be", config(), steps[1:])
	wantSettle(t, "as many looks as may be", config(), looks[1:])
	wantAudit(t, "as many looks as may be", config(), looks[1:])
}

// Where nobody knows anything and no letter is there, there is nothing to do, however the clocks stand.
func TestP1902Nothing(t *testing.T) {
	wantSettle(t, "no steps", config(), nil)
	wantSettle(t, "no steps", config(), []api.Step{})
	wantSettle(t, "ticks", config(), []api.Step{tick(0), tick(0), tick(1)})
	wantSettle(t, "refused ones", config(), []api.Step{{}, {Kind: 99}, tick(2), deliver(0), {Kind: api.StepFrame}, {Kind: api.StepCrash}})
}

// A call about a name that is none goes to and fro: letters alone are delivered, and no clock ticks.
func TestP1902LettersAlone(t *testing.T) {
	_, o := home()
	// the question; its acknowledgement and the answer; that one's acknowledgement
	wantSettle(t, "a question", config(), []api.Step{call(o, 1, api.OpRead)}, deliver(0), deliver(0), deliver(0), deliver(0))
}

// A new counter is known to all behind a round: each replica tells each other one.
func TestP1902Rounds(t *testing.T) {
	h, o := home()
	create := call(h, 1, api.OpCreate, 10, 4)
	round := []api.Step{tick(0), deliver(0), deliver(0), tick(1), deliver(0), deliver(0)}
	if h == 1 {
		round = []api.Step{tick(0), tick(1), deliver(0), deliver(0), tick(0), deliver(0), deliver(0), tick(1), deliver(0), deliver(0)}
	}
	wantSettle(t, "a new counter", config(), []api.Step{create}, round...)
	wantRest(t, config(), behind([]api.Step{create}, round))
	wantSettle(t, "one whose word is under way", config(), []api.Step{create, tick(h)}, deliver(0), deliver(0))
	changed := behind([]api.Step{create}, round, []api.Step{call(h, 2, api.OpDec, 1)})
	wantSettle(t, "another value", config(), changed, tick(0), deliver(0), deliver(0), tick(1), deliver(0), deliver(0))
	if about := ran(t, config(), behind(changed, []api.Step{call(o, 1, api.OpLook)})); about[len(about)-1].Replies[0].Value != 4 {
		t.Errorf("it is known at once elsewhere: %+v", about[len(about)-1])
	}
}

// What was lost is sent again: the call is answered, and it is not too late.
func TestP1902Lost(t *testing.T) {
	h, o := home()
	steps := []api.Step{call(h, 1, api.OpCreate, 10, 4), call(o, 1, api.OpRead), drop(0)}
	further := settled(t, config(), steps)
	var got []api.Reply
	for _, a := range ran(t, config(), behind(steps, further))[len(steps):] {
		got = append(got, a.Replies...)
	}
	want := []api.Reply{{Call: api.Call{Session: o, Id: 1}, Value: 4}}
	if !slices.Equal(got, want) {
		t.Errorf("the replies %+v, want %+v", got, want)
	}
	if !sameStep(further[0], tick(0)) {
		t.Errorf("a delivery without a letter: %+v", further[0])
	}
}

// Every letter that a script has left is delivered ahead of the first tick, doubled ones too.
func TestP1902BagFirst(t *testing.T) {
	h, o := home()
	steps := []api.Step{
		call(h, 1, api.OpCreate, 10, 4), tick(h), {Kind: api.StepDouble}, {Kind: api.StepDouble}, call(o, 1, api.OpDec, 1), {Kind: api.StepMove, I: 3, J: 0},
		call(h, 2, api.OpDec, 1),
	}
	further := settled(t, config(), steps)
	first := slices.IndexFunc(further, func(s api.Step) bool { return s.Kind == api.StepTick })
	if first < 4 || further[first].Replica != 0 {
		t.Fatalf("%+v", further)
	}
	bag := ran(t, config(), behind(steps, further[:first], []api.Step{{Kind: api.StepBag}}))
	if left := bag[len(bag)-1].Bag; len(left) != 0 {
		t.Errorf("a tick ahead of the letters %+v", left)
	}
}

// All replicas tick in each round, by rising numbers, and none but them.
func TestP1902Ticks(t *testing.T) {
	for _, n := range []int{2, 3, 7, 16} {
		c := config()
		c.Replicas, c.Sessions, c.Bag = n, 16, 1024
		h := names.Home("k", n)
		steps := []api.Step{call(h, 1, api.OpCreate, 100, 30), call((h+1)%n, 1, api.OpRead), call((h+n-1)%n, 1, api.OpTake, 30, 7), call(h, 2, api.OpHold, 5, 3)}
		next := 0
		for _, s := range settled(t, c, steps) {
			if s.Kind == api.StepDeliver && sameStep(s, deliver(0)) {
				continue
			}
			if !sameStep(s, tick(next%n)) {
				t.Fatalf("%d replicas: the tick %d is %+v", n, next, s)
			}
			next++
		}
		if next == 0 || next%n != 0 {
			t.Errorf("%d replicas: %d ticks", n, next)
		}
	}
}

// W3: behind few ticks none of the calls is answered too late, whatever is lost.
func TestP1902InTime(t *testing.T) {
	d := dice(19021)
	answered := 0
	for range 150 {
		c, steps, _ := scriptOf(t, d.bytes(d.roll(2500)), true)
		c.Bag, c.Timeout = api.MaxBag, 10+d.roll(30)
		most := c.Timeout - c.Resend - 3
		ticks := make([]int, c.Replicas)
		steps = slices.DeleteFunc(fewLooks(steps), func(s api.Step) bool {
			if s.Kind != api.StepTick || s.Replica < 0 || s.Replica >= c.Replicas {
				return false
			}
			ticks[s.Replica]++
			return ticks[s.Replica] > most
		})
		all := made(t, c)
		for _, s := range steps {
			all.Do(s)
		}
		open := 0
		for _, s := range sightsOf(all, c) {
			open += len(s.Calls)
		}
		for _, s := range settled(t, c, steps) {
			for _, r := range all.Do(s).Replies {
				answered++
				open--
				if r.Err == api.ErrTimeout {
					t.Fatalf("%+v: %+v", c, r)
				}
			}
		}
		if open != 0 {
			t.Fatalf("%d calls are not answered", open)
		}
	}
	if answered < 100 {
		t.Errorf("%d calls were answered", answered)
	}
}

// A frame from nowhere may freeze a counter for good: that is no rest, and no steps are told.
func TestP1902NoRest(t *testing.T) {
	h, o := home()
	mark := api.Msg{Kind: api.MsgMark, Name: "k", Cap: 10, Epoch: epochOf(1, o)}
	steps := []api.Step{call(h, 1, api.OpCreate, 10, 4), from(t, o, h, 1, mark)}
	if l, e := sluice.Settle(config(), steps); e != api.ErrLong || len(l) != 0 {
		t.Errorf("%d steps, %d", len(l), e)
	}
	all := made(t, config())
	for _, s := range steps {
		all.Do(s)
	}
	if _, rests := settling(all, config()); rests {
		t.Errorf("it comes to rest")
	}
	wantAudit(t, "no rest", config(), steps, []int{10, 0, 0, 0, 0, 0, 4, 6})
}
