package replica

import (
	"sluice/api"
	"sluice/wire"
)

// handler takes a message from a peer.
type handler = func(r *Replica, from int, m api.Msg)

// handlers tells by its kind what takes a message.
func handlers() [api.MsgDigest + 1]handler {
	return [api.MsgDigest + 1]handler{
		api.MsgAsk:    (*Replica).takeAsk,
		api.MsgTold:   (*Replica).takeTold,
		api.MsgMark:   (*Replica).takeMark,
		api.MsgYield:  (*Replica).takeYield,
		api.MsgGrant:  (*Replica).takeEnd,
		api.MsgAbort:  (*Replica).takeEnd,
		api.MsgOver:   (*Replica).takeEnd,
		api.MsgWant:   (*Replica).takeWant,
		api.MsgGive:   (*Replica).takeGive,
		api.MsgDigest: (*Replica).takeDigest,
	}
}

// hear takes what a peer has said.
func (r *Replica) hear(from int, data []byte) {
	m, _, e := wire.Decode(data)
	if e != api.OK {
		r.drops++
		return
	}
	if isAbout(m) && !r.learn(m.Name, m.Cap, m.Recaps) {
		return
	}
	handlers()[m.Kind](r, from, m)
	if c, known := r.counters[m.Name]; known {
		r.settle(c)
	}
}

// isAbout tells whether a message says that its name is a counter's.
func isAbout(m api.Msg) bool {
	switch m.Kind {
	case api.MsgAsk, api.MsgDigest:
		return false
	case api.MsgTold:
		return saysCap(m.Err)
	}
	return true
}

// saysCap tells whether a home's word says that there is a counter.
func saysCap(e api.Errno) bool { return e == api.OK || e == api.ErrExists }

// learn makes a name known, and lets its ledger hear of the cap; false: the name can't be one.
func (r *Replica) learn(name string, limit, recaps int) bool {
	c, known := r.counters[name]
	if !known {
		if !r.names.Learn(name) {
			return false
		}
		c = r.know(name, limit)
	}
	c.ledger.Hear(limit, recaps)
	return true
}

func (r *Replica) takeAsk(from int, m api.Msg) {
	if !r.isHome(m.Op.Name) || !isGood(m.Op) {
		return
	}
	e, _ := r.rule(request{m.Call, m.Op})
	word := api.Msg{Kind: api.MsgTold, Call: m.Call, Name: m.Op.Name, Err: e}
	if saysCap(e) {
		word.Cap, word.Recaps = r.counters[m.Op.Name].ledger.Cap()
	}
	r.post(from, word)
}

func (r *Replica) takeTold(_ int, m api.Msg) {
	o, asked := r.names.Told(m.Call)
	if !asked {
		return
	}
	_, known := r.counters[o.Name]
	switch {
	case o.Kind == api.OpCreate || m.Err != api.OK:
		r.answer(m.Call, 0, m.Err)
	case !known:
		r.names.Ask(m.Call, o) // the word was about another name
	default:
		r.goOn(request{m.Call, o})
	}
}

func (r *Replica) takeMark(_ int, m api.Msg) {
	c := r.counters[m.Name]
	r.obey(c, c.machine.Hear(m.Epoch))
}

// takeEnd takes what says that an epoch has finished; only a MsgOver has another one in Over.
func (r *Replica) takeEnd(_ int, m api.Msg) {
	c := r.counters[m.Name]
	r.obey(c, c.machine.End(m.Epoch, m.Over))
	c.ledger.In(m.Rights)
}

func (r *Replica) takeYield(from int, m api.Msg) {
	c := r.counters[m.Name]
	c.ledger.In(m.Rights)
	c.machine.Report(from, m.Epoch, m.Held)
}

func (r *Replica) takeGive(_ int, m api.Msg) {
	r.counters[m.Name].ledger.In(m.Rights)
}

func (r *Replica) takeWant(from int, m api.Msg) {
	c := r.counters[m.Name]
	if c.machine.Frozen() {
		return
	}
	if given := r.gossip.Give(c.ledger, m.Rights); given != (api.Rights{}) {
		r.tell(from, c, api.Msg{Kind: api.MsgGive, Rights: given})
	}
}

// takeDigest takes the views whose names can be.
func (r *Replica) takeDigest(from int, m api.Msg) {
	var list []api.View
	for _, v := range m.Views {
		if r.learn(v.Name, v.Cap, v.Recaps) {
			list = append(list, v)
		}
	}
	r.views.Take(from, list)
	for _, v := range list {
		r.settle(r.counters[v.Name])
	}
}
