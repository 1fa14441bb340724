package replica_test

import (
	"reflect"
	"slices"
	"testing"

	"sluice/api"
	"sluice/replica"
	"sluice/wire"
)

// kept is a counter as one place would keep it.
type kept struct {
	limit, value int
	holds        map[int]int // amounts, by the holds' numbers
	made         map[int]bool
}

func (k *kept) held() int {
	sum := 0
	for _, amount := range k.holds {
		sum += amount
	}
	return sum
}

// place is all counters at one place.
type place map[string]*kept

// do does what an effect says, and tells what it should have been answered; number is that of a hold to be made.
func (p place) do(o api.Op, number int) (api.Errno, int) {
	k := p[o.Name]
	switch {
	case o.Kind == api.OpCreate && k != nil:
		return api.ErrExists, 0
	case o.Kind == api.OpCreate && o.B > o.A:
		return api.ErrCap, 0
	case o.Kind == api.OpCreate:
		p[o.Name] = &kept{o.A, o.B, map[int]int{}, map[int]bool{}}
		return api.OK, 0
	case k == nil:
		return api.ErrNone, 0
	}
	amount, there := k.holds[o.A]
	switch {
	case o.Kind == api.OpInc && k.value+k.held()+o.A > k.limit:
		return api.ErrRights, 0
	case o.Kind == api.OpInc:
		k.value += o.A
	case o.Kind == api.OpDec && k.value < o.A:
		return api.ErrRights, 0
	case o.Kind == api.OpDec:
		k.value -= o.A
	case o.Kind == api.OpHold && (k.value < o.A || k.made[number]):
		return api.ErrRights, 0
	case o.Kind == api.OpHold:
		k.value, k.holds[number], k.made[number] = k.value-o.A, o.A, true
		return api.OK, number
	case (o.Kind == api.OpCommit || o.Kind == api.OpRelease || o.Kind == api.OpExpire) && !there:
		return api.ErrHold, 0
	case o.Kind == api.OpCommit:
		delete(k.holds, o.A)
		return api.OK, amount
	case o.Kind == api.OpRelease || o.Kind == api.OpExpire:
		delete(k.holds, o.A)
		k.value += amount
		if o.Kind == api.OpExpire {
			return api.OK, 0
		}
		return api.OK, amount
	default:
		return k.exact(o)
	}
	return api.OK, 0
}

func (k *kept) exact(o api.Op) (api.Errno, int) {
	value := k.value
	switch {
	case o.Kind == api.OpTake && value != o.A:
		return api.ErrMismatch, 0
	case o.Kind == api.OpTake && value < o.B:
		return api.ErrRights, 0
	case o.Kind == api.OpTake:
		k.value -= o.B
	case o.Kind == api.OpReset && o.A+k.held() > k.limit:
		return api.ErrCap, 0
	case o.Kind == api.OpReset:
		k.value = o.A
		return api.OK, o.A
	case o.Kind == api.OpRecap && value+k.held() > o.A:
		return api.ErrCap, 0
	case o.Kind == api.OpRecap:
		k.limit = o.A
		return api.OK, o.A
	}
	return api.OK, value
}

// past is a call that was made: when it came, and when its effect and its reply did (0: not yet).
type past struct {
	at             int // the replica
	op             api.Op
	from, done, to int
	effect         api.Effect
	reply          api.Reply
}

// party is some replicas, the frames between them, and all that was asked and has happened.
type party struct {
	t        *testing.T
	c        api.Config
	replicas []*replica.Replica
	bag      []api.Letter
	step     int
	ids      []int
	calls    map[api.Call]*past
	world    place
	ticked   []int             // how often each replica has
	errs     map[api.Errno]int // how often each was answered
	d        *dice
}

func met(t *testing.T, c api.Config, d *dice) *party {
	t.Helper()
	p := &party{t: t, c: c, ids: make([]int, c.Sessions), calls: map[api.Call]*past{}, world: place{}, ticked: make([]int, c.Replicas), errs: map[api.Errno]int{}, d: d}
	for me := range c.Replicas {
		p.replicas = append(p.replicas, placed(t, c, me).r)
	}
	return p
}

// take takes what a replica asks for: it is held against the one place, and the frames go into the bag.
func (p *party) take(me int, acts api.Acts) {
	p.t.Helper()
	for _, e := range acts.Effects {
		p.happen(me, e)
	}
	for _, r := range acts.Replies {
		p.hear(me, r)
	}
	for _, l := range acts.Frames {
		if l.From != me || l.To == me || l.To < 0 || l.To >= p.c.Replicas {
			p.t.Fatalf("a letter of %d from %d to %d", me, l.From, l.To)
		}
		if len(p.bag) < p.c.Bag {
			p.bag = append(p.bag, l)
		}
	}
}

func (p *party) happen(me int, e api.Effect) {
	p.t.Helper()
	number := 0
	if e.Err == api.OK {
		number = e.Value
	}
	if f, value := p.world.do(e.Op, number); f != e.Err || value != e.Value || e.Step != 0 {
		p.t.Fatalf("step %d: the effect %+v of %d: one place answers %d, %d", p.step, e, me, f, value)
	}
	if e.Op.Kind == api.OpExpire {
		if e.Call != id(-1, 0) {
			p.t.Fatalf("a hold expires by a call: %+v", e)
		}
		return
	}
	call := p.calls[e.Call]
	if call == nil || call.op != e.Op || call.done != 0 || call.to != 0 && call.reply.Err != api.ErrTimeout {
		p.t.Fatalf("step %d: the effect %+v of %d is of no call that waits: %+v", p.step, e, me, call)
	}
	call.done, call.effect = p.step, e
}

func (p *party) hear(me int, r api.Reply) {
	p.t.Helper()
	p.errs[r.Err]++
	call := p.calls[r.Call]
	if call == nil || call.at != me || call.to != 0 {
		p.t.Fatalf("step %d: the reply %+v of %d is to no call that waits: %+v", p.step, r, me, call)
	}
	call.to, call.reply = p.step, r
	if call.done != 0 && r.Err != api.ErrTimeout && (call.effect.Err != r.Err || call.effect.Value != r.Value) {
		p.t.Fatalf("step %d: the reply %+v, and the effect %+v", p.step, r, call.effect)
	}
	if call.done == 0 && isDefinite(call.op.Kind, r.Err) {
		p.t.Fatalf("step %d: %+v is answered %+v without an effect", p.step, call.op, r)
	}
	if call.done != 0 && !isDefinite(call.op.Kind, r.Err) && r.Err != api.ErrTimeout && !(r.Err == api.ErrRights && (call.op.Kind == api.OpInc || call.op.Kind == api.OpDec)) {
		p.t.Fatalf("step %d: %+v is answered %+v, and has an effect", p.step, call.op, r)
	}
	if r.Err != api.OK && r.Value != 0 {
		p.t.Fatalf("a reply with an error and a value: %+v", r)
	}
}

// isDefinite: rule 18, of an answer that must have an effect.
func isDefinite(kind int, e api.Errno) bool {
	switch e {
	case api.OK, api.ErrNone:
		return kind != api.OpLook
	case api.ErrMismatch, api.ErrExists, api.ErrHold:
		return true
	case api.ErrCap:
		return kind == api.OpCreate || kind == api.OpReset || kind == api.OpRecap
	case api.ErrRights:
		return kind == api.OpTake
	}
	return false
}

func (p *party) call(session int, o api.Op) {
	p.t.Helper()
	p.step++
	me := session % p.c.Replicas
	p.ids[session]++
	c := id(session, p.ids[session])
	p.calls[c] = &past{at: me, op: o, from: p.step}
	before := stocked(p.replicas[me].See(), o.Name)
	acts, e := p.replicas[me].Call(c, o)
	if e != api.OK {
		p.t.Fatalf("the call %+v, %+v: %d", c, o, e)
	}
	p.take(me, acts)
	p.atOnce(me, before, c, acts)
}

func stocked(s api.Sight, name string) *api.Stock {
	for i := range s.Stocks {
		if s.Stocks[i].Name == name {
			return &s.Stocks[i]
		}
	}
	return nil
}

// atOnce is W6: what is known and not frozen is answered on the spot by the rights that are there, and sends nothing.
func (p *party) atOnce(me int, before *api.Stock, c api.Call, acts api.Acts) {
	p.t.Helper()
	o := p.calls[c].op
	if before == nil || len(before.Live) > 0 || o.Kind < api.OpInc || o.Kind > api.OpRelease {
		return
	}
	if len(acts.Replies) != 1 || len(acts.Frames) != 0 {
		p.t.Fatalf("%+v at %d, with %+v: %+v", o, me, before, acts)
	}
	enough := map[int]bool{api.OpInc: before.Rights.Up >= o.A, api.OpDec: before.Rights.Down >= o.A}
	if should, said := enough[o.Kind]; said && should != (acts.Replies[0].Err == api.OK) {
		p.t.Fatalf("%+v at %d, with %+v: %+v", o, me, before, acts.Replies)
	}
}

// again asks once more for what was asked: it works no second time.
func (p *party) again(session int) {
	p.t.Helper()
	p.step++
	if p.ids[session] == 0 {
		return
	}
	me := session % p.c.Replicas
	c := id(session, 1+p.d.roll(p.ids[session]))
	was := p.calls[c]
	before := p.replicas[me].See()
	acts, e := p.replicas[me].Call(c, was.op)
	switch {
	case was.to == 0 && e == api.ErrPending, was.to != 0 && e == api.ErrStale && c.Id < p.ids[session]:
		wantQuiet(p.t, acts)
	case was.to != 0 && e == api.OK:
		wantReplies(p.t, acts, was.reply)
		wantEffects(p.t, acts)
	default:
		p.t.Fatalf("%+v once more, answered in step %d: %d", c, was.to, e)
	}
	if len(acts.Frames) != 0 || !reflect.DeepEqual(before, p.replicas[me].See()) {
		p.t.Fatalf("%+v once more has changed something", c)
	}
}

func (p *party) tick(me int) {
	p.t.Helper()
	p.step++
	p.ticked[me]++
	p.take(me, p.replicas[me].Tick())
}

func (p *party) deliver(i int) {
	p.t.Helper()
	p.step++
	l := p.bag[i]
	p.bag = slices.Delete(p.bag, i, i+1)
	acts, e := p.replicas[l.To].Frame(l.Data)
	if e != api.OK {
		p.t.Fatalf("step %d: a frame that was sent: %d", p.step, e)
	}
	p.take(l.To, acts)
}

// underWay tells what has left one replica and has not come to the other.
func (p *party) underWay(sights []api.Sight, from, to int) []api.Msg {
	p.t.Helper()
	list := slices.Clone(sights[from].Out[to])
	for _, s := range sights[from].Under[to] {
		if s.Seq < sights[to].Next[from] {
			continue
		}
		m, _, e := wire.Decode(s.Data)
		if e != api.OK {
			p.t.Fatalf("a segment without a message: %+v", s)
		}
		list = append(list, m)
	}
	return list
}

func (p *party) sights() []api.Sight {
	var list []api.Sight
	for _, r := range p.replicas {
		list = append(list, r.See())
	}
	return list
}

func hasRights(m api.Msg) bool {
	return m.Kind == api.MsgYield || m.Kind == api.MsgGrant || m.Kind == api.MsgAbort || m.Kind == api.MsgGive
}

// check is W2 and W7, and that each sight is one that can be.
func (p *party) check() {
	p.t.Helper()
	sights := p.sights()
	down, all := map[string]int{}, map[string]int{}
	add := func(name string, r api.Rights, held int) {
		down[name] += r.Down
		all[name] += r.Down + r.Up + held
	}
	for me, s := range sights {
		for _, k := range s.Stocks {
			add(k.Name, k.Rights, k.Held)
			add(k.Name, k.Got, 0)
			p.checkStock(me, k)
		}
		p.checkBounds(s)
		for to := range sights {
			if to == me {
				continue
			}
			for _, m := range p.underWay(sights, me, to) {
				if hasRights(m) {
					add(m.Name, m.Rights, 0)
				}
			}
		}
	}
	for name, k := range p.world {
		if down[name] != k.value || all[name] != k.limit || k.value < 0 || k.value > k.limit {
			p.t.Fatalf("step %d: %q has %d down rights of %d, should have %d of %d", p.step, name, down[name], all[name], k.value, k.limit)
		}
	}
	if len(all) > len(p.world) {
		p.t.Fatalf("step %d: more counters than were made: %v", p.step, all)
	}
}

func (p *party) checkStock(me int, k api.Stock) {
	p.t.Helper()
	target := api.Epoch{}
	for _, e := range k.Live {
		if e.Round > target.Round || e.Round == target.Round && e.Rank > target.Rank {
			target = e
		}
	}
	none := api.Epoch{}
	switch {
	case k.Own != none && (k.Own != target || k.Own.Rank != me || k.Rights != rights(0, 0)),
		k.Own == none && (k.Got != rights(0, 0) || len(k.Live) > 0 && k.Rights != rights(0, 0)),
		len(k.Live) == 0 && k.Wait > 0:
		p.t.Fatalf("step %d: the stock of %d: %+v", p.step, me, k)
	}
}

func (p *party) checkBounds(s api.Sight) {
	p.t.Helper()
	waiting := 0
	for _, k := range s.Stocks {
		waiting += k.Wait
		if k.Own.Round > 0 {
			waiting++
		}
	}
	if len(s.Calls) > p.c.Queue || waiting > len(s.Calls) || s.Drops != 0 {
		p.t.Fatalf("step %d: %d open calls, %d of counters; %d drops", p.step, len(s.Calls), waiting, s.Drops)
	}
	for to, box := range s.Out {
		kinds := map[int]int{}
		for _, m := range box {
			kinds[m.Kind]++
		}
		if len(s.Under[to]) > p.c.Window || kinds[api.MsgTold] > p.c.Queue || kinds[api.MsgAsk] > p.c.Queue || kinds[api.MsgDigest] > 1 {
			p.t.Fatalf("step %d: the outbox %v, %d under way", p.step, kinds, len(s.Under[to]))
		}
	}
}

// playNames are some that three, two, four and five replicas are at home of.
var playNames = []string{"a", "b", "c", "d", "i", "q"}

func (p *party) someOp() api.Op {
	d := p.d
	o := op(1+d.roll(11), playNames[d.roll(2+d.roll(len(playNames)-1))])
	amount := 1 + d.roll(6)
	switch o.Kind {
	case api.OpCreate:
		o.A, o.B = 5+d.roll(20), d.roll(12)
	case api.OpInc, api.OpDec:
		o.A = amount
	case api.OpHold:
		o.A, o.B = amount, 1+d.roll(8)
	case api.OpCommit, api.OpRelease:
		o.A = p.someHold(o.Name)
	case api.OpTake:
		o.A, o.B = d.roll(12), amount
		if k := p.world[o.Name]; k != nil && d.roll(3) > 0 {
			o.A = k.value
		}
	case api.OpReset:
		o.A = d.roll(20)
	case api.OpRecap:
		o.A = 1 + d.roll(30)
	}
	return o
}

func (p *party) someHold(name string) int {
	var numbers []int
	if k := p.world[name]; k != nil {
		for number := range k.holds {
			numbers = append(numbers, number)
		}
	}
	if len(numbers) == 0 || p.d.roll(5) == 0 {
		return 1 + p.d.roll(60)
	}
	slices.Sort(numbers)
	return numbers[p.d.roll(len(numbers))]
}

// session is any one; of an op about a hold mostly one of that hold's replica.
func (p *party) session(o api.Op) int {
	session := p.d.roll(p.c.Sessions)
	if o.Kind == api.OpCommit || o.Kind == api.OpRelease {
		if at := o.A % api.MaxReplicas; at < p.c.Replicas && at < p.c.Sessions && p.d.roll(4) > 0 {
			session = at
		}
	}
	return session
}

// play does one step: calls, ticks up to a bound, and whatever may become of frames.
func (p *party) play(most int) {
	p.t.Helper()
	d := p.d
	n := len(p.bag)
	switch x := d.roll(20); {
	case x < 7:
		o := p.someOp()
		p.call(p.session(o), o)
	case x < 8:
		p.again(d.roll(p.c.Sessions))
	case x < 10:
		if me := d.roll(p.c.Replicas); p.ticked[me] < most {
			p.tick(me)
		}
	case n == 0:
	case x < 17:
		p.deliver(d.roll(min(n, 1+d.roll(n))))
	case x < 18:
		p.bag = slices.Delete(p.bag, 0, 1)
	case x < 19 && n < p.c.Bag:
		p.bag = append(p.bag, p.bag[d.roll(n)])
	default:
		i := d.roll(n)
		l := p.bag[i]
		p.bag = slices.Insert(slices.Delete(p.bag, i, i+1), d.roll(n), l)
	}
}

// isAtRest: no call is open, nothing is frozen, no right is under way, and all tell the value.
func (p *party) isAtRest() bool {
	sights := p.sights()
	for me, s := range sights {
		if len(s.Calls) > 0 {
			return false
		}
		for _, k := range s.Stocks {
			if len(k.Live) > 0 || k.About != p.world[k.Name].value {
				return false
			}
		}
		if len(s.Stocks) < len(p.world) {
			return false
		}
		for to := range sights {
			if to != me && slices.ContainsFunc(p.underWay(sights, me, to), hasRights) {
				return false
			}
		}
	}
	return true
}

// rest ticks and delivers till all is at rest; it tells how many rounds that took.
func (p *party) rest() int {
	p.t.Helper()
	for round := range 10 * (p.c.Timeout + p.c.Resend + p.c.Replicas) {
		for len(p.bag) > 0 {
			p.deliver(0)
			p.check()
		}
		if p.isAtRest() {
			return round
		}
		for me := range p.replicas {
			p.tick(me)
			p.check()
		}
	}
	p.t.Fatalf("step %d: it does not come to rest", p.step)
	return 0
}

func (p *party) someConfig() api.Config {
	d := p.d
	replicas := 2 + d.roll(4)
	window := 1 + d.roll(3)
	return api.Config{
		Replicas: replicas, Window: window, Resend: 1 + d.roll(4), Timeout: 1 + d.roll(30), Queue: 1 + d.roll(5), Cache: 1 + d.roll(4),
		Counters: 1 + d.roll(3), Holds: d.roll(4), Sessions: 2*replicas + d.roll(5), Bag: max(2*replicas*(replicas-1)*window, 20),
	}
}

// Behind each of many steps, whatever becomes of the frames: the effects are those of one place, no right is made or
// lost, and at last it comes to rest.
func TestP1407AsOnePlace(t *testing.T) {
	d := dice(1401)
	errs := map[api.Errno]int{}
	for range 120 {
		p := met(t, (&party{d: &d}).someConfig(), &d)
		for range 400 {
			p.play(1 << 30)
			p.check()
		}
		p.rest()
		for e, n := range p.errs {
			errs[e] += n
		}
	}
	for _, e := range []api.Errno{api.OK, api.ErrReplica, api.ErrRights, api.ErrCap, api.ErrHold, api.ErrHolds, api.ErrNone, api.ErrExists, api.ErrCounters, api.ErrMismatch, api.ErrTimeout, api.ErrBusy} {
		if errs[e] < 20 {
			t.Errorf("%d is answered %d times: too little is played", e, errs[e])
		}
	}
}

// Where no clock goes on far, no call runs out of time on the way to rest.
func TestP1409NoTimeoutAtRest(t *testing.T) {
	d := dice(1402)
	for range 60 {
		c := (&party{d: &d}).someConfig()
		c.Timeout = 30 + d.roll(30)
		p := met(t, c, &d)
		for range 200 {
			p.play(c.Timeout - c.Resend - 3)
			p.check()
		}
		before := p.errs[api.ErrTimeout]
		p.rest()
		if p.errs[api.ErrTimeout] != before {
			t.Fatalf("%d calls of %+v have run out of time", p.errs[api.ErrTimeout]-before, c)
		}
	}
}
