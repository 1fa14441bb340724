package check

import (
	"sluice/api"
	"sluice/atom"
)

// Verify tells whether effects are an order that explains a history. api.ErrArg, if the history is not right;
// api.ErrWitness and a number, if they are none: that of the first effect that is wrong, or, if all are well, the number
// of effects plus the place of the first call that must have one and has none.
func Verify(history []api.Past, effects []api.Effect) (int, api.Errno) {
	places, right := placesOf(history)
	if !right {
		return 0, api.ErrArg
	}
	v := verifier{history: history, places: places, had: make([]bool, len(history)), counters: atom.New()}
	for i, e := range effects {
		if !v.takes(e) {
			return i, api.ErrWitness
		}
	}
	for i, p := range history {
		if partOf(p) == must && !v.had[i] {
			return len(effects) + i, api.ErrWitness
		}
	}
	return 0, api.OK
}

// verifier goes through effects.
type verifier struct {
	history  []api.Past
	places   map[api.Call]int
	had      []bool // by places: the call has had its effect
	step     int    // that of the effect ahead; 0 ahead of the first one
	counters *atom.Map
}

// takes tells whether the next effect is right, and has done it then.
func (v *verifier) takes(e api.Effect) bool {
	if e.Step < v.step {
		return false
	}
	v.step = e.Step
	if e.Call.Session < 0 {
		return e.Op.Kind == api.OpExpire && e.Err == api.OK && v.counters.Allows(e)
	}
	i, there := v.places[e.Call]
	if !there || v.had[i] || !explains(e, v.history[i]) {
		return false
	}
	v.had[i] = true
	return v.counters.Allows(e)
}

// explains tells whether an effect could be a call's own, whatever happened ahead of it.
func explains(e api.Effect, p api.Past) bool {
	if e.Op != p.Op || partOf(p) == none || e.Step < p.From {
		return false
	}
	return !isAnswered(p) || e.Step <= p.To && e.Err == p.Err && e.Value == p.Value
}
