package replica

import (
	"slices"

	"sluice/api"
	"sluice/epoch"
	"sluice/share"
)

// nobody is the session of an effect that no call has had.
const nobody = -1

// settle does all that is to be done behind what has happened to a counter.
func (r *Replica) settle(c *counter) {
	for r.settleOnce(c) {
	}
}

// settleOnce tells whether there may be more to do.
func (r *Replica) settleOnce(c *counter) bool {
	switch {
	case c.isGathering():
		if !c.hasAll() {
			return false
		}
		r.decide(c)
		return true
	case c.machine.Frozen():
		r.yield(c)
		return false
	}
	return r.takeUp(c)
}

// yield gives all rights to the target's initiator, if there are any, or if it has no report from here.
func (r *Replica) yield(c *counter) {
	target := c.machine.Target()
	rights := c.ledger.All()
	if target == c.yielded && rights == (api.Rights{}) {
		return
	}
	c.yielded = target
	r.tell(target.Rank, c, api.Msg{Kind: api.MsgYield, Epoch: target, Rights: rights, Held: c.ledger.Held()})
}

// takeUp goes on with a counter that is not frozen; false: no call waits.
func (r *Replica) takeUp(c *counter) bool {
	r.release(c)
	if len(c.line) == 0 {
		return false
	}
	q := c.line[0]
	c.line = slices.Delete(c.line, 0, 1)
	r.start(c, q)
	return true
}

// release ends the holds whose time is over.
func (r *Replica) release(c *counter) {
	for _, hold := range c.book.Expire(c.ledger, r.wheel.Now()) {
		q := request{api.Call{Session: nobody}, api.Op{Kind: api.OpExpire, Name: c.name, A: hold}}
		r.effect(q, 0, api.OK)
	}
}

// decide answers the own call, and the calls of the line, by all rights.
func (r *Replica) decide(c *counter) {
	r.conclude(c, c.own)
	n := 0
	for n < len(c.line) && (c.line[n].op.Kind != api.OpRecap || c.machine.All()) {
		r.conclude(c, c.line[n])
		n++
	}
	c.line = slices.Delete(c.line, 0, n)
	r.finish(c, api.MsgGrant)
}

// conclude answers a call by all rights: so what is refused for want of them is definite too.
func (r *Replica) conclude(c *counter, q request) {
	value, e := c.do(q.op, r.wheel.Now())
	if isDefinite(q.op.Kind, e) {
		r.effect(q, value, e)
	}
	r.answer(q.call, value, e)
}

// isDefinite tells apart what hangs on the replica where an op is done, and not on the counter alone.
func isDefinite(kind int, e api.Errno) bool {
	switch e {
	case api.ErrReplica, api.ErrHolds:
		return false
	case api.ErrRights:
		return kind != api.OpHold
	}
	return true
}

// finish ends the own epoch, and deals the rights out by messages of a kind, if others were told of it.
func (r *Replica) finish(c *counter, kind int) {
	own, told := c.machine.Own(), c.told
	c.machine.Finish()
	c.own, c.told = request{}, false
	if told {
		r.deal(c, api.Msg{Kind: kind, Epoch: own})
	}
}

func (r *Replica) deal(c *counter, m api.Msg) {
	weights := slices.Repeat([]int{1}, r.config.Replicas)
	parts, _ := share.Split(c.ledger.All(), weights) // it is not refused: a ledger never has more than a cap may be
	for to, part := range parts {
		if to == r.me {
			c.ledger.In(part)
			continue
		}
		m.Rights = part
		r.tell(to, c, m)
	}
}

// obey does what a machine asks for; yielding, deciding and going on are settle's.
func (r *Replica) obey(c *counter, acts []epoch.Act) {
	for _, act := range acts {
		switch act.Kind {
		case epoch.ActMark:
			c.told = true
			r.tellAll(c, api.Msg{Kind: api.MsgMark, Epoch: act.Epoch})
		case epoch.ActOver:
			r.tellAll(c, api.Msg{Kind: api.MsgOver, Epoch: act.Epoch, Over: act.Over})
		case epoch.ActQueue:
			c.line = slices.Insert(c.line, 0, c.own)
			c.own, c.told = request{}, false
		}
	}
}

// timeOut answers an open call whose time is over; one that has been answered meanwhile is passed over.
func (r *Replica) timeOut(call api.Call) {
	d, open := r.open[call]
	if !open {
		return
	}
	r.answer(call, 0, api.ErrTimeout)
	if _, asked := r.names.Told(call); asked {
		r.withdraw(r.home(d.name), call)
		return
	}
	c := r.counters[d.name]
	if !c.leave(call) {
		r.finish(c, api.MsgAbort)
	}
	r.settle(c)
}
