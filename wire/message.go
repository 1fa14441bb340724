package wire

import "sluice/api"

// fields: which fields a message has, in the order in which all kinds have them.
type fields uint

const (
	hasCall fields = 1 << iota
	hasOp
	hasName
	hasErr
	hasCap // and Recaps
	hasEpoch
	hasRights
	hasHeld
	hasOver
	hasViews
)

// with tells whether x is among the fields.
func (f fields) with(x fields) bool { return f&x != 0 }

// fieldsOf tells the fields that every message of a kind has.
func fieldsOf(kind int) fields {
	has := fields(0)
	switch kind {
	case api.MsgAsk:
		has |= hasCall | hasOp
	case api.MsgTold:
		has |= hasCall | hasName | hasErr
	case api.MsgYield:
		has |= hasHeld
		fallthrough
	case api.MsgGrant, api.MsgAbort:
		has |= hasEpoch
		fallthrough
	case api.MsgWant, api.MsgGive:
		has |= hasName | hasCap | hasRights
	case api.MsgOver:
		has |= hasOver
		fallthrough
	case api.MsgMark:
		has |= hasName | hasCap | hasEpoch
	case api.MsgDigest:
		has |= hasViews
	}
	return has
}

// message goes through a message, and tells which fields it has: a word of MsgTold may have a cap, and tells it only behind its Err.
func message(h hand, m *api.Msg) fields {
	h.number(&m.Kind, api.MsgAsk, api.MsgDigest)
	has := fieldsOf(m.Kind)
	if has.with(hasCall) {
		call(h, &m.Call)
	}
	if has.with(hasOp) {
		op(h, &m.Op)
	}
	if has.with(hasName) {
		name(h, &m.Name, "")
	}
	if has.with(hasErr) {
		errno(h, &m.Err)
		if m.Err == api.OK || m.Err == api.ErrExists {
			has |= hasCap
		}
	}
	if has.with(hasCap) {
		caps(h, &m.Cap, &m.Recaps)
	}
	if has.with(hasEpoch) {
		epoch(h, &m.Epoch)
	}
	if has.with(hasRights) {
		rights(h, &m.Rights)
	}
	if has.with(hasHeld) {
		held(h, &m.Held)
	}
	if has.with(hasOver) {
		epoch(h, &m.Over)
	}
	if has.with(hasViews) {
		views(h, &m.Views)
	}
	return has
}

// bare tells whether all that a message does not have is zero.
func bare(m api.Msg, has fields) bool {
	none := api.Msg{}
	return m.Value == 0 &&
		(has.with(hasCall) || m.Call == none.Call) &&
		(has.with(hasOp) || m.Op == none.Op) &&
		(has.with(hasName) || m.Name == "") &&
		(has.with(hasErr) || m.Err == api.OK) &&
		(has.with(hasCap) || m.Cap == 0 && m.Recaps == 0) &&
		(has.with(hasEpoch) || m.Epoch == none.Epoch) &&
		(has.with(hasRights) || m.Rights == none.Rights) &&
		(has.with(hasHeld) || m.Held == 0) &&
		(has.with(hasOver) || m.Over == none.Over) &&
		(has.with(hasViews) || len(m.Views) == 0)
}
