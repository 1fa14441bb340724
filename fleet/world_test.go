package fleet_test

import (
	"reflect"
	"slices"
	"testing"

	"sluice/api"
	"sluice/atom"
	"sluice/check"
	"sluice/frame"
	"sluice/wire"
)

// world is a fleet, what its clients have asked for and were told, and the counters as one place would keep them. A client
// that was not answered asks again.
type world struct {
	*stage
	d       *dice
	last    []int  // the last id of each session
	unsure  []bool // of each session: its last call may not have come
	history []api.Past
	place   map[api.Call]int // in the history
	one     *atom.Map
	seen    []api.Effect // the witness so far
	ticked  []int        // of each replica: StepTicks that may have come
	errs    map[api.Errno]int
	downs   int // steps in which the power failed
	saved   int // of them those that had effects
}

func worldOf(t *testing.T, c api.Config, d *dice) *world {
	t.Helper()
	return &world{
		stage: staged(t, c), d: d, last: make([]int, c.Sessions), unsure: make([]bool, c.Sessions), place: map[api.Call]int{}, one: atom.New(),
		ticked: make([]int, c.Replicas), errs: map[api.Errno]int{},
	}
}

// act takes a step, and takes what comes of it: the error must be one of these, or that a replica is down.
func (w *world) act(step api.Step, wanted ...api.Errno) api.Answer {
	w.t.Helper()
	a := w.do(step)
	at := w.step
	if a.Err != api.ErrDown && !slices.Contains(wanted, a.Err) {
		w.t.Fatalf("step %d, %+v: %d", at, step, a.Err)
	}
	w.errs[a.Err]++
	n := w.follow(at)
	for _, r := range a.Replies {
		w.hear(at, r)
	}
	if a.Err != api.OK && len(a.Replies) > 0 || a.Err != api.OK && a.Err != api.ErrDown && n > 0 {
		w.t.Fatalf("step %d, %+v: %+v, and %d effects", at, step, a, n)
	}
	if a.Err == api.ErrDown {
		w.saved += min(n, 1)
	}
	return a
}

// follow takes the effects of a step, and tells how many there are: they stand behind those that were there, with the
// step's number, and each is what one place allows.
func (w *world) follow(at int) int {
	w.t.Helper()
	all := w.witness()
	if len(all) < len(w.seen) || !slices.Equal(all[:len(w.seen)], w.seen) {
		w.t.Fatalf("step %d: the witness has changed: %+v\nit was %+v", at, all, w.seen)
	}
	news := all[len(w.seen):]
	for _, e := range news {
		if e.Step != at || !w.one.Allows(e) {
			w.t.Fatalf("step %d: the effect %+v", at, e)
		}
	}
	w.seen = all
	return len(news)
}

// hear takes a reply: one that comes again is the same.
func (w *world) hear(at int, r api.Reply) {
	w.t.Helper()
	i, there := w.place[r.Call]
	if !there {
		w.t.Fatalf("step %d: the reply %+v is to no call", at, r)
	}
	p := &w.history[i]
	if p.To >= 0 && (p.Err != r.Err || p.Value != r.Value) {
		w.t.Fatalf("step %d: the reply %+v; it was %+v", at, r, *p)
	}
	if p.To < 0 {
		p.To, p.Err, p.Value = at, r.Err, r.Value
		w.errs[r.Err]++
	}
}

// verify is W1: the witness explains all that the clients were told.
func (w *world) verify() {
	w.t.Helper()
	if n, e := check.Verify(w.history, w.seen); e != api.OK {
		w.t.Fatalf("step %d: Verify: %d, %d\n%+v\n%+v", w.step, n, e, w.history, w.seen)
	}
}

// ask takes the step of a call, of which it is the first one or one more.
func (w *world) ask(step api.Step) api.Answer {
	w.t.Helper()
	me, call, o := step.Replica, step.Call, step.Op
	if step.Kind == api.StepRequest {
		call, o, _, _ = wire.DecodeRequest(step.Data)
	}
	before, bag := w.look(me), w.bag()
	if _, there := w.place[call]; !there {
		w.place[call] = len(w.history)
		w.history = append(w.history, api.Past{Call: call, Op: o, From: w.step + 1, To: -1})
	}
	a := w.act(step, api.OK, api.ErrPending, api.ErrStale)
	if before.Up && a.Err == api.ErrDown {
		w.downs++
	}
	if call.Id >= w.last[call.Session] {
		w.last[call.Session], w.unsure[call.Session] = call.Id, a.Err == api.ErrDown
	}
	switch {
	case a.Err == api.OK && len(a.Replies) == 0 && !slices.Contains(w.see(me).Calls, call):
		w.t.Fatalf("step %d: %+v is neither answered nor open", w.step, step)
	case a.Err == api.OK && isAtOnce(before.Sight, o) && (len(a.Replies) == 0 || !sameLetters(w.bag(), bag)):
		w.t.Fatalf("step %d: %+v is not answered at once: %+v", w.step, step, a)
	}
	return a
}

// isAtOnce is W6: a fast op, where its counter is known and not frozen.
func isAtOnce(s api.Sight, o api.Op) bool {
	return o.Kind >= api.OpInc && o.Kind <= api.OpRelease &&
		slices.ContainsFunc(s.Stocks, func(k api.Stock) bool { return k.Name == o.Name && len(k.Live) == 0 })
}

// again is W5: a call that has come works no second time, and what it was answered it is answered again, or too late.
func (w *world) again() {
	w.t.Helper()
	session := w.d.roll(w.c.Sessions)
	n := w.last[session] - w.d.roll(4)
	if n < 1 || w.unsure[session] {
		return
	}
	past := w.history[w.place[id(session, n)]]
	was := len(w.seen)
	a := w.ask(api.Step{Kind: api.StepCall, Replica: session % w.c.Replicas, Call: past.Call, Op: past.Op})
	if len(w.seen) != was || a.Err == api.OK && (len(a.Replies) != 1 || a.Replies[0].Call != past.Call) {
		w.t.Fatalf("step %d: %+v comes again: %+v", w.step, past, a)
	}
	if past.To >= 0 && a.Err == api.ErrPending {
		w.t.Fatalf("step %d: %+v is open again", w.step, past)
	}
}

// disturb is W4: bytes that do not open, and requests that are none, change a count alone.
func (w *world) disturb() {
	w.t.Helper()
	me := w.d.roll(w.c.Replicas)
	step := api.Step{Kind: api.StepFrame + w.d.roll(2), Replica: me, Data: w.d.bytes(w.d.roll(30))}
	_, want := frame.Open(step.Data)
	if step.Kind == api.StepRequest {
		_, _, _, want = wire.DecodeRequest(step.Data)
	}
	before, bag := w.sights(), w.bag()
	wasUp := w.isUp(me)
	a := w.act(step, want)
	after := w.sights()
	if wasUp && after[me].Drops == before[me].Drops+1 {
		before[me].Drops++
	}
	if !reflect.DeepEqual(after, before) || !sameLetters(w.bag(), bag) || a.Err == want && after[me].Drops != before[me].Drops {
		w.t.Fatalf("step %d: %+v: %+v", w.step, step, a)
	}
}

// raise restarts a replica that is down: it is to be seen as its disk has told.
func (w *world) raise(me int) {
	w.t.Helper()
	was := w.look(me)
	if was.Up {
		return
	}
	w.act(api.Step{Kind: api.StepRestart, Replica: me}, api.OK)
	was.Up = true
	if now := w.look(me); !reflect.DeepEqual(now, was) {
		w.t.Fatalf("step %d: %d is restarted: %+v\nit was %+v", w.step, me, now, was)
	}
}

func (w *world) tickOne(me int) {
	w.t.Helper()
	w.ticked[me]++
	w.act(api.Step{Kind: api.StepTick, Replica: me}, api.OK)
}

// underWay tells what has left one replica and has not come to the other.
func underWay(t *testing.T, sights []api.Sight, from, to int) []api.Msg {
	t.Helper()
	list := slices.Clone(sights[from].Out[to])
	for _, s := range sights[from].Under[to] {
		if s.Seq < sights[to].Next[from] {
			continue
		}
		m, _, e := wire.Decode(s.Data)
		if e != api.OK {
			t.Fatalf("a segment without a message: %+v", s)
		}
		list = append(list, m)
	}
	return slices.DeleteFunc(list, func(m api.Msg) bool { return m.Kind == api.MsgWant || m.Rights == api.Rights{} })
}

// check is W2 and W7, of replicas that are down too.
func (w *world) check() {
	w.t.Helper()
	sights := w.sights()
	down, all, held := map[string]int{}, map[string]int{}, map[string]int{}
	add := func(name string, r api.Rights) {
		down[name] += r.Down
		all[name] += r.Down + r.Up
	}
	for me, s := range sights {
		w.checkBounds(me, s)
		for _, k := range s.Stocks {
			add(k.Name, k.Rights)
			add(k.Name, k.Got)
			held[k.Name] += k.Held
		}
		for to := range sights {
			if to == me {
				continue
			}
			for _, m := range underWay(w.t, sights, me, to) {
				add(m.Name, m.Rights)
			}
		}
	}
	for _, name := range w.one.Names() {
		value, locked, limit, _ := w.one.Peek(name)
		if down[name] != value || held[name] != locked || all[name]+locked != limit {
			w.t.Fatalf("step %d: %q: %d down of %d, %d held; want %d of %d, %d", w.step, name, down[name], all[name], held[name], value, limit, locked)
		}
	}
	if len(all) > len(w.one.Names()) {
		w.t.Fatalf("step %d: more counters than were made: %v", w.step, all)
	}
}

func (w *world) checkBounds(me int, s api.Sight) {
	w.t.Helper()
	for to, box := range s.Out {
		n := 0
		for _, m := range box {
			if m.Kind == api.MsgTold || m.Kind == api.MsgAsk {
				n++
			}
		}
		if len(s.Under[to]) > w.c.Window || n > 2*w.c.Queue {
			w.t.Fatalf("step %d: at %d for %d: %d, %d under way", w.step, me, to, n, len(s.Under[to]))
		}
	}
	if len(s.Calls) > w.c.Queue || s.Now > w.ticked[me] || len(w.bag()) > w.c.Bag {
		w.t.Fatalf("step %d: at %d: %+v", w.step, me, s)
	}
}

// isAtRest: every call is answered, nothing is frozen, no right is under way, and every OpLook is the value.
func (w *world) isAtRest() bool {
	w.t.Helper()
	sights := w.sights()
	list := w.one.Names()
	for me, s := range sights {
		if len(s.Calls) > 0 || len(s.Stocks) < len(list) {
			return false
		}
		for _, k := range s.Stocks {
			if value, _, _, _ := w.one.Peek(k.Name); len(k.Live) > 0 || k.About != value {
				return false
			}
		}
		for to := range sights {
			if to != me && len(underWay(w.t, sights, me, to)) > 0 {
				return false
			}
		}
	}
	return true
}

// inARow is how many letters are delivered ahead of a tick at the most: without one there may be no end to it, till the
// journals are full.
func (w *world) inARow() int { return 30 * w.c.Replicas * w.c.Replicas }

// rest is W3: further ticks, deliveries and restarts bring it to rest, and what clients were not told they can ask for.
func (w *world) rest() {
	w.t.Helper()
	raiseAll := func() {
		for me := range w.c.Replicas {
			w.raise(me)
		}
	}
	for range 10 * (w.c.Timeout + w.c.Resend + w.c.Replicas) {
		raiseAll()
		for n := 0; n < w.inARow() && len(w.bag()) > 0; n++ {
			w.act(api.Step{Kind: api.StepDeliver}, api.OK)
			raiseAll()
		}
		w.check()
		if w.isAtRest() {
			w.askAll()
			return
		}
		for me := range w.c.Replicas {
			w.tickOne(me)
			raiseAll()
		}
	}
	w.t.Fatalf("step %d: it does not come to rest", w.step)
}

// askAll asks again for all that has come and was not answered: it is answered now, or too late; nothing is done.
func (w *world) askAll() {
	w.t.Helper()
	was := len(w.seen)
	for _, past := range w.history {
		session := past.Call.Session
		if past.To >= 0 || w.unsure[session] && past.Call.Id == w.last[session] {
			continue
		}
		a := w.ask(api.Step{Kind: api.StepCall, Replica: session % w.c.Replicas, Call: past.Call, Op: past.Op})
		if a.Err == api.ErrPending || len(w.seen) != was {
			w.t.Fatalf("step %d: %+v at rest: %+v", w.step, past, a)
		}
		w.raise(session % w.c.Replicas)
	}
	w.verify()
}
