package replica

import (
	"slices"

	"sluice/api"
	"sluice/frame"
	"sluice/wire"
)

// tell puts a message about a counter into the outbox for a peer.
func (r *Replica) tell(to int, c *counter, m api.Msg) {
	m.Name = c.name
	m.Cap, m.Recaps = c.ledger.Cap()
	r.post(to, m)
}

func (r *Replica) tellAll(c *counter, m api.Msg) {
	for _, peer := range r.peers {
		r.tell(peer, c, m)
	}
}

// post puts a message into the outbox for a peer, or merges it into one that stands there.
func (r *Replica) post(to int, m api.Msg) {
	box := r.outboxes[to]
	i := slices.IndexFunc(box, func(old api.Msg) bool { return isMerged(old, m) })
	if i >= 0 {
		box[i] = merged(box[i], m)
		return
	}
	r.outboxes[to] = append(box, m)
	if m.Kind == api.MsgTold {
		r.boundTold(to)
	}
}

// isMerged tells whether a later message goes into an old one. A digest has no name of its own.
func isMerged(old, late api.Msg) bool {
	return old.Kind == late.Kind && old.Name == late.Name && late.Kind != api.MsgAsk && late.Kind != api.MsgTold
}

func merged(old, late api.Msg) api.Msg {
	if late.Kind != api.MsgWant {
		late.Rights.Down += old.Rights.Down
		late.Rights.Up += old.Rights.Up
	}
	late.Epoch = higher(old.Epoch, late.Epoch)
	late.Over = higher(old.Over, late.Over)
	return late
}

func higher(a, b api.Epoch) api.Epoch {
	if a.Round > b.Round || a.Round == b.Round && a.Rank > b.Rank {
		return a
	}
	return b
}

// boundTold takes the first MsgTold out, if there are more than calls of the peer can wait for.
func (r *Replica) boundTold(to int) {
	n, first := 0, 0
	for i, m := range slices.Backward(r.outboxes[to]) {
		if m.Kind == api.MsgTold {
			n, first = n+1, i
		}
	}
	if n > r.config.Queue {
		r.outboxes[to] = slices.Delete(r.outboxes[to], first, first+1)
	}
}

// withdraw takes the MsgAsk of a call out, if it has not gone.
func (r *Replica) withdraw(to int, call api.Call) {
	r.outboxes[to] = slices.DeleteFunc(r.outboxes[to], func(m api.Msg) bool {
		return m.Kind == api.MsgAsk && m.Call == call
	})
}

// send empties the outbox for a peer into its link, as far as that has room, and lets go out what is to go.
func (r *Replica) send(peer int) {
	l := r.links[peer]
	for len(r.outboxes[peer]) > 0 && l.Room() > 0 {
		m := r.outboxes[peer][0]
		r.outboxes[peer] = slices.Delete(r.outboxes[peer], 0, 1)
		// what Encode refuses is let go: frames from nowhere have led to it
		if b, e := wire.Encode(m); e == api.OK {
			l.Send(b)
		}
	}
	for _, s := range l.Out() {
		r.emit(s)
	}
}

// emit puts a segment into a frame. Neither is refused: a message is shorter than a segment, and that than a frame.
func (r *Replica) emit(s api.Segment) {
	payload, _ := wire.EncodeSegment(s)
	data, _ := frame.Seal(payload)
	r.acts.Frames = append(r.acts.Frames, api.Letter{From: s.From, To: s.To, Data: data})
}
