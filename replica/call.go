package replica

import (
	"strings"

	"sluice/api"
	"sluice/names"
)

// isGood tells whether an op is one that a call may ask for.
func isGood(o api.Op) bool {
	if !names.Good(o.Name) {
		return false
	}
	switch o.Kind {
	case api.OpCreate:
		return isAmount(o.A) && isValue(o.B)
	case api.OpInc, api.OpDec, api.OpRecap:
		return isAmount(o.A) && o.B == 0
	case api.OpHold:
		return isAmount(o.A) && o.B >= 1 && o.B <= api.MaxTicks
	case api.OpCommit, api.OpRelease:
		return o.A >= 1 && o.B == 0
	case api.OpRead, api.OpLook:
		return o.A == 0 && o.B == 0
	case api.OpTake:
		return isValue(o.A) && isAmount(o.B)
	case api.OpReset:
		return isValue(o.A) && o.B == 0
	}
	return false
}

func isAmount(n int) bool { return n >= 1 && isValue(n) }

func isValue(n int) bool { return n >= 0 && n <= api.MaxCap }

// take takes a new request.
func (r *Replica) take(q request) {
	if !isGood(q.op) {
		r.answer(q.call, 0, api.ErrArg)
		return
	}
	q.op.Name = strings.Clone(q.op.Name) // it may be a piece of a longer text, which would be kept with it
	_, known := r.counters[q.op.Name]
	switch {
	case q.op.Kind == api.OpLook:
		r.look(q, known)
	case !known && !r.isHome(q.op.Name):
		r.ask(q)
	default:
		if e, answered := r.rule(q); answered {
			r.answer(q.call, 0, e)
		} else {
			r.goOn(q)
		}
	}
}

func (r *Replica) home(name string) int { return names.Home(name, r.config.Replicas) }

func (r *Replica) isHome(name string) bool { return r.home(name) == r.me }

func (r *Replica) look(q request, known bool) {
	if !known {
		r.answer(q.call, 0, api.ErrNone)
		return
	}
	about, _ := r.views.About(q.op.Name)
	r.answer(q.call, about, api.OK)
}

// ask lets a call wait for the word of its name's home.
func (r *Replica) ask(q request) {
	if r.isBusy(q.call) {
		r.answer(q.call, 0, api.ErrBusy)
		return
	}
	r.keep(q)
	r.names.Ask(q.call, q.op)
	r.post(r.home(q.op.Name), api.Msg{Kind: api.MsgAsk, Call: q.call, Op: q.op})
}

// rule answers what is said of a name alone: at its home, or where it is known; false: the call goes on.
func (r *Replica) rule(q request) (api.Errno, bool) {
	_, known := r.counters[q.op.Name]
	if known && q.op.Kind != api.OpCreate {
		return api.OK, false
	}
	e := api.ErrNone
	if q.op.Kind == api.OpCreate {
		e = r.create(q.op, known)
	}
	if e != api.ErrCounters {
		r.effect(q, 0, e)
	}
	return e, true
}

// create makes a counter with all its rights.
func (r *Replica) create(o api.Op, known bool) api.Errno {
	switch {
	case known:
		return api.ErrExists
	case o.B > o.A:
		return api.ErrCap
	}
	if e := r.names.Make(o.Name); e != api.OK {
		return e
	}
	r.know(o.Name, o.A).ledger.In(api.Rights{Down: o.B, Up: o.A - o.B})
	return api.OK
}

// goOn takes a call further whose name is known.
func (r *Replica) goOn(q request) {
	c := r.counters[q.op.Name]
	frozen := c.machine.Frozen()
	switch {
	case (frozen || isExact(q.op.Kind)) && r.isBusy(q.call):
		r.answer(q.call, 0, api.ErrBusy)
	case frozen:
		r.keep(q)
		c.line = append(c.line, q)
	default:
		r.start(c, q)
	}
	r.settle(c)
}

// isBusy tells whether a call is refused since others are open; one that is open itself never is.
func (r *Replica) isBusy(call api.Call) bool {
	_, open := r.open[call]
	return !open && len(r.open) >= r.config.Queue
}

// keep makes a call an open one, if it is not; its time goes from when it was taken.
func (r *Replica) keep(q request) {
	if _, open := r.open[q.call]; open {
		return
	}
	timer := r.wheel.Arm(r.config.Timeout, q.call.Session, q.call.Id)
	r.open[q.call] = deadline{timer, q.op.Name}
}

// start serves a call where its counter is not frozen: a fast one is answered, an exact one begins an epoch.
func (r *Replica) start(c *counter, q request) {
	if isExact(q.op.Kind) {
		r.begin(c, q)
		return
	}
	value, e := c.do(q.op, r.wheel.Now())
	switch e {
	case api.OK, api.ErrHold:
		r.effect(q, value, e)
	case api.ErrRights:
		r.lack(q.op)
	}
	r.answer(q.call, value, e)
}

// lack remembers what a call would have needed.
func (r *Replica) lack(o api.Op) {
	if o.Kind == api.OpInc {
		r.gossip.Need(o.Name, api.Rights{Up: o.A})
	} else {
		r.gossip.Need(o.Name, api.Rights{Down: o.A})
	}
}

func (r *Replica) begin(c *counter, q request) {
	limit, rights, held := c.numbers()
	acts, e := c.machine.Begin(limit, rights, held, q.op.Kind == api.OpRecap)
	if e != api.OK {
		r.answer(q.call, 0, e)
		return
	}
	r.keep(q)
	c.own = q
	r.obey(c, acts)
}

// answer answers a call, which is open no more then.
func (r *Replica) answer(call api.Call, value int, e api.Errno) {
	if d, open := r.open[call]; open {
		r.wheel.Cancel(d.timer)
		delete(r.open, call)
	}
	reply := api.Reply{Call: call, Err: e, Value: value}
	r.cache.End(reply)
	r.acts.Replies = append(r.acts.Replies, reply)
}

func (r *Replica) effect(q request, value int, e api.Errno) {
	r.acts.Effects = append(r.acts.Effects, api.Effect{Call: q.call, Op: q.op, Err: e, Value: value})
}
