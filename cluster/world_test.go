package cluster_test

import (
	"reflect"
	"slices"
	"testing"

	"sluice/api"
	"sluice/frame"
	"sluice/holds"
	"sluice/names"
	"sluice/wire"
)

// past is a call that was made: in which step it came, and in which its effect and its reply did (0: not yet).
type past struct {
	at             int // the replica
	op             api.Op
	from, done, to int
	taken          int // what the clock there was
	effect         api.Effect
	reply          api.Reply
}

// world is a cluster, and all that was asked of it and has happened, held against one place at each step.
type world struct {
	*stage
	d      *dice
	ids    []int // the last id of each session
	calls  map[api.Call]*past
	place  place
	seen   []api.Effect // the witness so far
	ticked []int        // how often each replica has
	errs   map[api.Errno]int
}

func begun(t *testing.T, c api.Config, d *dice) *world {
	t.Helper()
	return &world{
		stage: staged(t, c), d: d, ids: make([]int, c.Sessions), calls: map[api.Call]*past{}, place: place{},
		ticked: make([]int, c.Replicas), errs: map[api.Errno]int{},
	}
}

// act takes a step that must not be refused, and takes what comes of it.
func (w *world) act(step api.Step) api.Answer {
	w.t.Helper()
	a := w.do(step)
	if a.Err != api.OK {
		w.t.Fatalf("step %d, %+v: %d", w.step, step, a.Err)
	}
	at := w.step
	w.follow(at)
	for _, r := range a.Replies {
		w.hear(at, r)
	}
	return a
}

// follow takes the effects of a step: they stand behind those that were there, with the step's number.
func (w *world) follow(at int) {
	w.t.Helper()
	all := w.witness()
	if len(all) < len(w.seen) || !slices.Equal(all[:len(w.seen)], w.seen) {
		w.t.Fatalf("step %d: the witness has changed: %+v\nit was %+v", at, all, w.seen)
	}
	for _, e := range all[len(w.seen):] {
		if e.Step != at {
			w.t.Fatalf("step %d: the effect %+v", at, e)
		}
		w.happen(e)
	}
	w.seen = all
}

// happen is W1: an effect is what one place answers, and it is of a call that has come and is not answered.
func (w *world) happen(e api.Effect) {
	w.t.Helper()
	if f, value := w.place.do(e.Op, e.Value); f != e.Err || value != e.Value {
		w.t.Fatalf("the effect %+v: one place answers %d, %d", e, f, value)
	}
	if e.Op.Kind == api.OpExpire {
		if e.Call != id(-1, 0) {
			w.t.Fatalf("a hold expires by a call: %+v", e)
		}
		return
	}
	call := w.calls[e.Call]
	if call == nil || call.op != e.Op || call.done != 0 {
		w.t.Fatalf("the effect %+v is of no call that waits: %+v", e, call)
	}
	if call.to != 0 && (call.reply.Err != api.ErrTimeout || e.Op.Kind != api.OpCreate && e.Err != api.ErrNone) {
		w.t.Fatalf("the effect %+v is behind the answer: %+v", e, call)
	}
	call.done, call.effect = e.Step, e
}

// hear is rule 18: what is definite has its effect by now, and all else has none.
func (w *world) hear(at int, r api.Reply) {
	w.t.Helper()
	w.errs[r.Err]++
	call := w.calls[r.Call]
	if call == nil || call.to != 0 {
		w.t.Fatalf("step %d: the reply %+v is to no call that waits: %+v", at, r, call)
	}
	call.to, call.reply = at, r
	if r.Err != api.OK && r.Value != 0 {
		w.t.Fatalf("step %d: an error and a value: %+v", at, r)
	}
	switch {
	case r.Err == api.ErrTimeout:
		if call.done != 0 && call.op.Kind != api.OpCreate && call.effect.Err != api.ErrNone {
			w.t.Fatalf("step %d: too late, and an effect %+v", at, call.effect)
		}
	case call.done != 0 && (call.effect.Err != r.Err || call.effect.Value != r.Value):
		w.t.Fatalf("step %d: the reply %+v, and the effect %+v", at, r, call.effect)
	case isDefinite(call.op.Kind, r.Err) && call.done == 0:
		w.t.Fatalf("step %d: %+v is answered %+v without an effect", at, call.op, r)
	case !mayBeDefinite(call.op.Kind, r.Err) && call.done != 0:
		w.t.Fatalf("step %d: %+v is answered %+v, and has an effect", at, call.op, r)
	}
	w.wantReason(at, call)
}

func isDefinite(kind int, e api.Errno) bool {
	if kind == api.OpLook {
		return false
	}
	switch e {
	case api.OK, api.ErrMismatch, api.ErrNone, api.ErrExists, api.ErrHold:
		return true
	case api.ErrCap:
		return kind == api.OpCreate || kind == api.OpReset || kind == api.OpRecap
	case api.ErrRights:
		return kind == api.OpTake
	}
	return false
}

// mayBeDefinite adds what hangs on whether all rights were at hand.
func mayBeDefinite(kind int, e api.Errno) bool {
	return isDefinite(kind, e) || e == api.ErrRights && (kind == api.OpInc || kind == api.OpDec)
}

// wantReason is W8, as far as it is seen in what was answered: no refusal without a reason.
func (w *world) wantReason(at int, call *past) {
	w.t.Helper()
	e, o := call.reply.Err, call.op
	k := w.place[o.Name]
	good := true
	switch e {
	case api.ErrReplica:
		good = (o.Kind == api.OpCommit || o.Kind == api.OpRelease) && holds.Of(o.A) != call.at
	case api.ErrHolds:
		good = o.Kind == api.OpHold && k.holdsOf(call.at)+w.ended(at, o.Name) >= w.c.Holds
	case api.ErrCounters:
		n, homeOf := 0, names.Home(o.Name, w.c.Replicas)
		for name := range w.place {
			if names.Home(name, w.c.Replicas) == homeOf {
				n++
			}
		}
		good = o.Kind == api.OpCreate && n == w.c.Counters
	case api.ErrTimeout:
		good = w.ticked[call.at] == call.taken+w.c.Timeout
	case api.ErrBusy, api.ErrArg:
		good = call.to == call.from
	case api.OK, api.ErrRights, api.ErrCap, api.ErrHold, api.ErrNone, api.ErrExists, api.ErrMismatch:
	default:
		good = false
	}
	if !good {
		w.t.Fatalf("step %d: no reason for %+v: %+v", at, call.reply, call)
	}
}

// ended counts the holds that have ended in a step: they may have been there still when another call was answered in it.
func (w *world) ended(at int, name string) int {
	n := 0
	for _, e := range w.seen {
		if e.Step == at && e.Op.Name == name && e.Err == api.OK && (e.Op.Kind == api.OpCommit || e.Op.Kind == api.OpRelease || e.Op.Kind == api.OpExpire) {
			n++
		}
	}
	return n
}

// ask lets a session ask for an op with its next id, and looks at what may be said of that ahead of it.
func (w *world) ask(session int, o api.Op, asBytes bool) {
	w.t.Helper()
	me := session % w.c.Replicas
	before, bag := w.see(me), w.bag()
	w.ids[session]++
	c := id(session, w.ids[session])
	w.calls[c] = &past{at: me, op: o, from: w.step + 1, taken: w.ticked[me]}
	step := api.Step{Kind: api.StepCall, Replica: me, Call: c, Op: o}
	if asBytes {
		if data, e := wire.EncodeRequest(c, o); e == api.OK {
			step = api.Step{Kind: api.StepRequest, Replica: me, Data: data}
		}
	}
	expected, now := w.foresee(me, before, o)
	a := w.act(step)
	switch {
	case now && (len(a.Replies) != 1 || a.Replies[0].Err != expected):
		w.t.Fatalf("step %d: %+v at %d is answered %+v, want %d; there was %+v", w.step, o, me, a.Replies, expected, before)
	case now && !sameLetters(w.bag(), bag):
		w.t.Fatalf("step %d: %+v at %d sends something", w.step, o, me)
	case !now && len(a.Replies) == 0 && !slices.Contains(w.see(me).Calls, c):
		w.t.Fatalf("step %d: %+v at %d is neither answered nor open", w.step, o, me)
	}
}

// foresee is W6, and W8 of what is answered at once: the error by what is seen of the replica; false: it hangs on more.
func (w *world) foresee(me int, s api.Sight, o api.Op) (api.Errno, bool) {
	k := stockOf(s, o.Name)
	busy := len(s.Calls) == w.c.Queue
	atHome := names.Home(o.Name, w.c.Replicas) == me
	switch {
	case !isGood(o):
		return api.ErrArg, true
	case o.Kind == api.OpLook && k == nil:
		return api.ErrNone, true
	case o.Kind == api.OpLook:
		return api.OK, true
	case k == nil && !atHome:
		return api.ErrBusy, busy
	case o.Kind == api.OpCreate && k != nil:
		return api.ErrExists, true
	case o.Kind == api.OpCreate && o.B > o.A:
		return api.ErrCap, true
	case o.Kind == api.OpCreate:
		return api.OK, len(w.place) == 0
	case k == nil:
		return api.ErrNone, true
	case len(k.Live) > 0 || o.Kind >= api.OpRead:
		return api.ErrBusy, busy
	}
	return w.foreseeFast(me, k, o), true
}

func (w *world) foreseeFast(me int, k *api.Stock, o api.Op) api.Errno {
	one := w.place[o.Name]
	_, there := one.holds[o.A]
	switch {
	case o.Kind == api.OpHold && one.holdsOf(me) >= w.c.Holds:
		return api.ErrHolds
	case (o.Kind == api.OpDec || o.Kind == api.OpHold) && k.Rights.Down < o.A, o.Kind == api.OpInc && k.Rights.Up < o.A:
		return api.ErrRights
	case o.Kind <= api.OpHold:
		return api.OK
	case holds.Of(o.A) != me:
		return api.ErrReplica
	case !there:
		return api.ErrHold
	}
	return api.OK
}

func isGood(o api.Op) bool {
	within := func(n, least, most int) bool { return n >= least && n <= most }
	a, b := within(o.A, 1, api.MaxCap), o.B == 0
	switch o.Kind {
	case api.OpCreate:
		b = within(o.B, 0, api.MaxCap)
	case api.OpHold:
		b = within(o.B, 1, api.MaxTicks)
	case api.OpCommit, api.OpRelease:
		a = o.A >= 1
	case api.OpRead, api.OpLook:
		a = o.A == 0
	case api.OpTake:
		a, b = within(o.A, 0, api.MaxCap), within(o.B, 1, api.MaxCap)
	case api.OpReset:
		a = within(o.A, 0, api.MaxCap)
	case api.OpInc, api.OpDec, api.OpRecap:
	default:
		return false
	}
	return names.Good(o.Name) && a && b
}

// misplace is W5, and W8 of calls that are refused: any session and any id but the next one.
func (w *world) misplace() {
	w.t.Helper()
	me := w.d.roll(w.c.Replicas)
	session := w.d.roll(w.c.Sessions+2) - 1
	last := 0
	mine := session >= 0 && session < w.c.Sessions && session%w.c.Replicas == me
	if mine {
		last = w.ids[session]
	}
	number := w.d.roll(last+4) - 1
	if number == last+1 {
		number = api.MaxRequest + 1
	}
	call := id(session, number)
	was := w.calls[call]
	before := w.scene()
	a := w.do(api.Step{Kind: api.StepCall, Replica: me, Call: call, Op: w.someOp()})
	var want api.Answer
	switch {
	case !mine:
		want.Err = api.ErrSession
	case number < 1 || number > api.MaxRequest:
		want.Err = api.ErrArg
	case number > last:
		want.Err = api.ErrOrder
	case was.to == 0:
		want.Err = api.ErrPending
	case w.later(call) < w.c.Cache:
		want.Replies = []api.Reply{was.reply}
	default:
		want.Err = api.ErrStale
	}
	w.errs[a.Err]++
	if !reflect.DeepEqual(a, want) {
		w.t.Fatalf("step %d: %+v at %d, behind %d: %+v; want %+v", w.step, call, me, last, a, want)
	}
	if after := w.scene(); !reflect.DeepEqual(before, after) {
		w.t.Fatalf("step %d: %+v has changed something", w.step, call)
	}
}

// later counts the calls of its session with greater ids that were answered.
func (w *world) later(c api.Call) int {
	n := 0
	for i := c.Id + 1; i <= w.ids[c.Session]; i++ {
		if w.calls[id(c.Session, i)].to != 0 {
			n++
		}
	}
	return n
}

// disturb is W4: bytes that do not open, and requests that are none, change a count alone.
func (w *world) disturb() {
	w.t.Helper()
	me := w.d.roll(w.c.Replicas)
	step := api.Step{Kind: api.StepFrame + w.d.roll(2), Replica: me, Data: w.d.bytes(w.d.roll(30))}
	bag := w.bag()
	if len(bag) > 0 && w.d.roll(2) == 0 {
		step.Data = bag[w.d.roll(len(bag))].Data
		step.Data[w.d.roll(len(step.Data))] ^= 1 << w.d.roll(8)
	}
	_, want := frame.Open(step.Data)
	if step.Kind == api.StepRequest {
		_, _, _, want = wire.DecodeRequest(step.Data)
	}
	if want == api.OK {
		return
	}
	before := w.scene()
	a := w.do(step)
	w.errs[a.Err]++
	before.sights[me].Drops++
	if after := w.scene(); !reflect.DeepEqual(a, api.Answer{Err: want}) || !reflect.DeepEqual(before, after) {
		w.t.Fatalf("step %d: %+v: %+v, want %d", w.step, step, a, want)
	}
}

func (w *world) tickOne(me int) {
	w.t.Helper()
	w.ticked[me]++
	w.act(api.Step{Kind: api.StepTick, Replica: me})
	for call, p := range w.calls {
		if p.at == me && p.to == 0 && w.ticked[me] >= p.taken+w.c.Timeout {
			w.t.Fatalf("step %d: %+v is not answered in time", w.step, call)
		}
	}
}

// underWay tells what has left one replica and has not come to the other.
func underWay(t *testing.T, sights []api.Sight, from, to int) []api.Msg {
	t.Helper()
	list := slices.Clone(sights[from].Out[to])
	for _, s := range sights[from].Under[to] {
		if s.Seq < sights[to].Next[from] {
			continue
		}
		m, _, e := wire.Decode(s.Data)
		if e != api.OK {
			t.Fatalf("a segment without a message: %+v", s)
		}
		list = append(list, m)
	}
	return list
}

// carries tells whether a message's rights are on their way.
func carries(m api.Msg) bool { return m.Kind != api.MsgWant && m.Rights != (api.Rights{}) }

// check is W2 and W7.
func (w *world) check() {
	w.t.Helper()
	sights := w.sights()
	down, all := map[string]int{}, map[string]int{}
	add := func(name string, r api.Rights, held int) {
		down[name] += r.Down
		all[name] += r.Down + r.Up + held
	}
	for me, s := range sights {
		w.checkBounds(me, s)
		for _, k := range s.Stocks {
			w.checkStock(me, k)
			add(k.Name, k.Rights, k.Held)
			add(k.Name, k.Got, 0)
		}
		for to := range sights {
			if to == me {
				continue
			}
			for _, m := range underWay(w.t, sights, me, to) {
				if carries(m) {
					add(m.Name, m.Rights, 0)
				}
			}
		}
	}
	for name, k := range w.place {
		if down[name] != k.value || all[name] != k.limit || k.value < 0 || k.value > k.limit {
			w.t.Fatalf("step %d: %q has %d down rights of %d, should have %d of %d", w.step, name, down[name], all[name], k.value, k.limit)
		}
	}
	if len(all) > len(w.place) {
		w.t.Fatalf("step %d: more counters than were made: %v", w.step, all)
	}
}

func (w *world) checkStock(me int, k api.Stock) {
	w.t.Helper()
	var target api.Epoch
	for _, e := range k.Live {
		if e.Round > target.Round || e.Round == target.Round && e.Rank > target.Rank {
			target = e
		}
	}
	none := api.Epoch{}
	switch {
	case k.Own != none && (k.Own != target || k.Own.Rank != me || k.Rights != rights(0, 0)),
		k.Own == none && (k.Got != rights(0, 0) || len(k.Live) > 0 && k.Rights != rights(0, 0)),
		len(k.Live) == 0 && k.Wait > 0, target.Round > api.MaxRound:
		w.t.Fatalf("step %d: the stock of %d: %+v", w.step, me, k)
	}
}

func (w *world) checkBounds(me int, s api.Sight) {
	w.t.Helper()
	waiting := 0
	for _, k := range s.Stocks {
		waiting += k.Wait
		if k.Own.Round > 0 {
			waiting++
		}
	}
	if s.Now != w.ticked[me] || len(s.Calls) > w.c.Queue || waiting > len(s.Calls) {
		w.t.Fatalf("step %d: at %d, %d of %d open calls are a counter's", w.step, s.Now, waiting, len(s.Calls))
	}
	for to, box := range s.Out {
		kinds := map[int]int{}
		for _, m := range box {
			kinds[m.Kind]++
		}
		if len(s.Under[to]) > w.c.Window || kinds[api.MsgTold] > w.c.Queue || kinds[api.MsgAsk] > w.c.Queue || kinds[api.MsgDigest] > 1 {
			w.t.Fatalf("step %d: the outbox %v, %d under way", w.step, kinds, len(s.Under[to]))
		}
	}
	if n := len(w.bag()); n > w.c.Bag {
		w.t.Fatalf("step %d: %d letters in a bag for %d", w.step, n, w.c.Bag)
	}
}
