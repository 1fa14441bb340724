package check_test

import (
	"math"
	"slices"
	"testing"

	"sluice/api"
	"sluice/atom"
	"sluice/check"
)

// decs is a history with an OpDec of 2 behind the OpCreate; dec is the op.
func decs() ([]api.Past, api.Op) {
	dec := op(api.OpDec, 2)
	return []api.Past{created(), past(1, dec, 4, 4, api.OK, 0)}, dec
}

// The chapter's examples.
func TestP1703Examples(t *testing.T) {
	h, dec := decs()
	wantVerify(t, h, []api.Effect{made(), effect(4, 1, dec, api.OK, 0)}, 0, api.OK)
	wantVerify(t, h, []api.Effect{effect(4, 1, dec, api.OK, 0), effect(4, 0, create(), api.OK, 0)}, 0, api.ErrWitness)
	wantVerify(t, h, []api.Effect{made()}, 2, api.ErrWitness)
	wantVerify(t, h, []api.Effect{effect(0, 0, create(), api.OK, 0), effect(5, 1, dec, api.OK, 0)}, 1, api.ErrWitness)
	wantVerify(t, []api.Past{created(), past(1, op(api.OpDec, 9), 4, 4, api.ErrRights, 0)}, []api.Effect{made()}, 0, api.OK)
	h[1] = past(1, dec, 4, 9, api.ErrTimeout, 0)
	wantVerify(t, h, []api.Effect{made(), effect(12, 1, dec, api.OK, 0)}, 0, api.OK)
	wantVerify(t, nil, nil, 0, api.OK)
	wantVerify(t, nil, []api.Effect{made()}, 0, api.ErrWitness)
}

// 1: steps are 0 or more, and none is below that ahead of it.
func TestP1703Steps(t *testing.T) {
	var h []api.Past
	var effects []api.Effect
	for i := range 5 {
		o := opOf("j", api.OpRead)
		h = append(h, open(i, o, 0))
		effects = append(effects, effect(10*i, i, o, api.ErrNone, 0))
	}
	for i := range effects {
		least := 0
		if i > 0 {
			least = effects[i-1].Step
		}
		for _, step := range []int{math.MinInt, -1, least - 1, least, least + 1} {
			other := slices.Clone(effects)
			other[i].Step = step
			if step < least {
				wantVerify(t, h, other, i, api.ErrWitness)
			} else {
				wantVerify(t, h, other, 0, api.OK)
			}
		}
	}
	effects[4].Step = math.MaxInt
	wantVerify(t, h, effects, 0, api.OK)
	effects[0].Step = math.MaxInt
	wantVerify(t, h, effects, 1, api.ErrWitness)
}

// 1 is of effects of no call too.
func TestP1703StepsOfNoCall(t *testing.T) {
	hold := op(api.OpHold, 3, 5)
	h := []api.Past{created(), past(1, hold, 4, 9, api.OK, 16), past(2, hold, 4, 99, api.ErrTimeout, 0)}
	effects := []api.Effect{made(), effect(6, 1, hold, api.OK, 16), expired(5, 16), effect(8, 2, hold, api.OK, 32)}
	wantVerify(t, h, effects, 2, api.ErrWitness)
	effects[2].Step = 6
	wantVerify(t, h, effects, 0, api.OK)
	effects[2].Step = 9
	wantVerify(t, h, effects, 3, api.ErrWitness)
	effects[2].Step = -6
	wantVerify(t, h, effects, 2, api.ErrWitness)
}

// 2: what no call has done is that a hold has expired.
func TestP1703NoCall(t *testing.T) {
	hold := op(api.OpHold, 3, 5)
	h := []api.Past{created(), past(1, hold, 4, 4, api.OK, 16)}
	head := []api.Effect{made(), effect(4, 1, hold, api.OK, 16)}
	for _, call := range []api.Call{{Session: -1}, {Session: -1, Id: 5}, {Session: -2}, {Session: math.MinInt, Id: -7}} {
		for kind := range 14 {
			for _, err := range []api.Errno{api.OK, api.ErrHold, api.ErrArg, api.ErrTimeout} {
				e := api.Effect{Step: 5, Call: call, Op: op(kind, 16), Err: err}
				if kind == api.OpExpire && err == api.OK {
					wantVerify(t, h, append(slices.Clone(head), e), 0, api.OK)
					wantVerify(t, h, append(slices.Clone(head), e, e), 3, api.ErrWitness)
				} else {
					wantVerify(t, h, append(slices.Clone(head), e), 2, api.ErrWitness)
				}
			}
		}
		read := api.Effect{Step: 5, Call: call, Op: op(api.OpRead), Value: 1}
		wantVerify(t, h, append(slices.Clone(head), read), 2, api.ErrWitness)
		commit := api.Effect{Step: 5, Call: call, Op: op(api.OpCommit, 16), Value: 3}
		wantVerify(t, h, append(slices.Clone(head), commit), 2, api.ErrWitness)
		gone := api.Effect{Step: 5, Call: call, Op: op(api.OpExpire, 17), Err: api.ErrHold}
		wantVerify(t, h, append(slices.Clone(head), gone), 2, api.ErrWitness)
	}
}

// Several holds expire by the same Call: that of none is no call that has had its effect.
func TestP1703ExpireTwo(t *testing.T) {
	hold := op(api.OpHold, 1, 5)
	commit := op(api.OpCommit, 16)
	h := []api.Past{created(), past(1, hold, 4, 4, api.OK, 16), past(2, hold, 4, 4, api.OK, 32), past(3, commit, 5, 9, api.ErrHold, 0)}
	effects := []api.Effect{
		made(), effect(4, 1, hold, api.OK, 16), effect(4, 2, hold, api.OK, 32), expired(5, 16), expired(5, 32), effect(6, 3, commit, api.ErrHold, 0),
	}
	wantVerify(t, h, effects, 0, api.OK)
	wantVerify(t, h, slices.Delete(slices.Clone(effects), 3, 4), 4, api.ErrWitness)
	wantVerify(t, h, slices.Delete(slices.Clone(effects), 4, 5), 0, api.OK)
}

// A call whose session is below 0 has no effect: those effects are no call's.
func TestP1703SessionBelow(t *testing.T) {
	hold := op(api.OpHold, 3, 5)
	h := []api.Past{created(), past(1, hold, 4, 4, api.OK, 16), {Call: api.Call{Session: -1}, Op: op(api.OpRead), From: 5, To: 9, Value: 4}}
	effects := []api.Effect{made(), effect(4, 1, hold, api.OK, 16), expired(5, 16)}
	wantVerify(t, h, effects, 5, api.ErrWitness)
	wantVerify(t, h, append(effects, api.Effect{Step: 6, Call: h[2].Call, Op: h[2].Op, Value: 4}), 3, api.ErrWitness)
	h[2].To = -1
	wantVerify(t, h, effects, 0, api.OK)
}

// 3: an effect is one of a call of the history, as it was made.
func TestP1703Whose(t *testing.T) {
	h, dec := decs()
	good := effect(4, 1, dec, api.OK, 0)
	for i, turn := range []func(e *api.Effect){
		func(e *api.Effect) { e.Call.Session = 7 },
		func(e *api.Effect) { e.Call.Id = 2 },
		func(e *api.Effect) { e.Call.Id = -1 },
		func(e *api.Effect) { e.Call = api.Call{} },
		func(e *api.Effect) { e.Call.Session = -1 },
		func(e *api.Effect) { e.Op.Kind = api.OpInc },
		func(e *api.Effect) { e.Op.A = 1 },
		func(e *api.Effect) { e.Op.B = 1 },
		func(e *api.Effect) { e.Op.Name = "j" },
		func(e *api.Effect) { e.Op = op(api.OpExpire, 2) },
		func(e *api.Effect) { e.Step = 3 },
	} {
		e := good
		turn(&e)
		if n, err := check.Verify(h, []api.Effect{made(), e}); n != 1 || err != api.ErrWitness {
			t.Errorf("row %d: %d, %d", i, n, err)
		}
	}
}

// 3: a call that is not in the history is none of it, though another one has the same op.
func TestP1703Nobodys(t *testing.T) {
	o := op(api.OpRead)
	wantVerify(t, []api.Past{open(0, o, 0)}, []api.Effect{effect(0, 1, o, api.ErrNone, 0)}, 0, api.ErrWitness)
	wantVerify(t, []api.Past{open(0, o, 0), open(1, o, 0)}, []api.Effect{effect(0, 2, o, api.ErrNone, 0)}, 0, api.ErrWitness)
	wantVerify(t, []api.Past{open(0, o, 0), open(1, o, 0)}, []api.Effect{effect(0, 1, o, api.ErrNone, 0)}, 0, api.OK)
}

// 3, where the map would allow the other op, or the effect ahead of the call.
func TestP1703AnotherOp(t *testing.T) {
	dec := op(api.OpDec, 2)
	h := []api.Past{created(), past(9, opOf("j", api.OpCreate, 10, 4), 0, 3, api.OK, 0), open(1, dec, 4)}
	head := []api.Effect{made(), effect(1, 9, h[1].Op, api.OK, 0)}
	for _, o := range []api.Op{op(api.OpInc, 2), op(api.OpDec, 1), opOf("j", api.OpDec, 2)} {
		wantVerify(t, h, append(slices.Clone(head), effect(4, 1, o, api.OK, 0)), 2, api.ErrWitness)
	}
	wantVerify(t, h, append(slices.Clone(head), effect(3, 1, dec, api.OK, 0)), 2, api.ErrWitness)
	wantVerify(t, h, append(slices.Clone(head), effect(4, 1, dec, api.OK, 0)), 0, api.OK)
	take := op(api.OpTake, 4, 1)
	h[2] = open(1, take, 4)
	wantVerify(t, h, append(slices.Clone(head), effect(4, 1, op(api.OpTake, 4, 2), api.OK, 4)), 2, api.ErrWitness)
}

// 3: each call has one effect at most, also one that is not answered.
func TestP1703Twice(t *testing.T) {
	h, dec := decs()
	e := effect(4, 1, dec, api.OK, 0)
	wantVerify(t, h, []api.Effect{made(), e, e}, 2, api.ErrWitness)
	h[1] = open(1, dec, 4)
	wantVerify(t, h, []api.Effect{made(), e, e}, 2, api.ErrWitness)
	wantVerify(t, h, []api.Effect{made(), e, effect(9, 1, dec, api.ErrRights, 0)}, 2, api.ErrWitness)
	h = append(h, open(2, dec, 4))
	other := effect(4, 2, dec, api.OK, 0)
	wantVerify(t, h, []api.Effect{made(), e, other}, 0, api.OK)
	wantVerify(t, h, []api.Effect{made(), e, other, e}, 3, api.ErrWitness)
	read := op(api.OpRead)
	h = []api.Past{created(), past(1, read, 4, 9, api.OK, 4), past(2, read, 4, 9, api.OK, 4)}
	one := effect(5, 1, read, api.OK, 4)
	wantVerify(t, h, []api.Effect{made(), one, effect(5, 2, read, api.OK, 4)}, 0, api.OK)
	wantVerify(t, h, []api.Effect{made(), one, one}, 2, api.ErrWitness)
}

// 4: the effect of a call that is answered is as its answer, and not behind it.
func TestP1703Answered(t *testing.T) {
	read := op(api.OpRead)
	for _, c := range []struct {
		step, to   int
		err        api.Errno
		value      int
		told       api.Errno
		toldAnswer int
		is         bool
	}{
		{5, 9, api.OK, 4, api.OK, 4, true},
		{9, 9, api.OK, 4, api.OK, 4, true},
		{10, 9, api.OK, 4, api.OK, 4, false},
		{4, 4, api.OK, 4, api.OK, 4, true},
		{5, 4, api.OK, 4, api.OK, 4, false},
		{5, 9, api.OK, 5, api.OK, 4, false}, // the map allows it, but it is not the answer
		{5, 9, api.OK, 5, api.OK, 5, false},
		{5, 9, api.ErrNone, 4, api.OK, 4, false},
		{5, 9, api.ErrNone, 0, api.ErrNone, 0, false},
		{5, 9, api.OK, 4, api.ErrNone, 0, false},
		{10, 9, api.ErrTimeout, 0, api.OK, 4, true},
		{math.MaxInt, 9, api.ErrTimeout, 77, api.OK, 4, true},
		{10, 9, api.ErrTimeout, 0, api.ErrTimeout, 0, false},
		{10, 9, api.ErrTimeout, 0, api.OK, 0, false},
		{3, 9, api.ErrTimeout, 0, api.OK, 4, false}, // ahead of its call
		{10, -1, api.OK, 0, api.OK, 4, true},
		{10, -1, api.ErrBusy, 7, api.OK, 4, true},
		{10, -1, api.OK, 0, api.ErrNone, 0, false},
	} {
		h := []api.Past{created(), past(1, read, 4, c.to, c.err, c.value)}
		effects := []api.Effect{made(), effect(c.step, 1, read, c.told, c.toldAnswer)}
		if c.is {
			wantVerify(t, h, effects, 0, api.OK)
		} else {
			wantVerify(t, h, effects, 1, api.ErrWitness)
		}
	}
}

// 4, of an OpInc or OpDec that lacked rights: the effect is no other one.
func TestP1703Rights(t *testing.T) {
	dec := op(api.OpDec, 2)
	h := []api.Past{created(), past(1, dec, 4, 6, api.ErrRights, 0)}
	wantVerify(t, h, []api.Effect{made(), effect(5, 1, dec, api.OK, 0)}, 1, api.ErrWitness)
	wantVerify(t, h, []api.Effect{made(), effect(5, 1, dec, api.ErrRights, 0)}, 1, api.ErrWitness) // there are enough
	h[1].Op.A = 5
	wantVerify(t, h, []api.Effect{made(), effect(5, 1, h[1].Op, api.ErrRights, 0)}, 0, api.OK)
	wantVerify(t, h, []api.Effect{made(), effect(7, 1, h[1].Op, api.ErrRights, 0)}, 1, api.ErrWitness)
	wantVerify(t, h, []api.Effect{made(), effect(3, 1, h[1].Op, api.ErrRights, 0)}, 1, api.ErrWitness)
	h[1].Value = 3
	wantVerify(t, h, []api.Effect{made(), effect(5, 1, h[1].Op, api.ErrRights, 0)}, 1, api.ErrWitness)
	wantVerify(t, h, []api.Effect{made(), effect(5, 1, h[1].Op, api.ErrRights, 3)}, 1, api.ErrWitness)
}

// 5: each effect is what the map answers behind all effects ahead of it.
func TestP1703Map(t *testing.T) {
	dec, read, reset, hold := op(api.OpDec, 2), op(api.OpRead), op(api.OpReset, 9), op(api.OpHold, 3, 5)
	h := []api.Past{
		created(), past(1, dec, 0, 99, api.OK, 0), past(2, read, 0, 99, api.OK, 2), past(3, reset, 0, 99, api.OK, 9), past(4, hold, 0, 99, api.OK, 16),
		past(5, op(api.OpTake, 6, 7), 0, 99, api.ErrRights, 0), past(6, op(api.OpReset, 8), 0, 99, api.ErrCap, 0),
	}
	effects := []api.Effect{made()}
	for i := 1; i < len(h); i++ {
		effects = append(effects, effect(3, i, h[i].Op, h[i].Err, h[i].Value))
	}
	wantVerify(t, h, effects, 0, api.OK)
	for _, c := range [][2]int{{1, 2}, {2, 3}, {3, 4}, {0, 1}, {4, 5}, {4, 6}, {1, 3}} {
		other := slices.Clone(effects)
		other[0].Step = 3
		other[c[0]], other[c[1]] = other[c[1]], other[c[0]]
		m, at := atom.New(), 0
		for at < len(other) && m.Allows(other[at]) {
			at++
		}
		wantVerify(t, h, other, at, api.ErrWitness)
	}
}

// The first wrong effect is told; then the first call without one; the places go on behind the effects.
func TestP1703Number(t *testing.T) {
	var h []api.Past
	var effects []api.Effect
	for i := range 6 {
		o := op(api.OpRead)
		h = append(h, past(i, o, 0, 9, api.ErrNone, 0))
		effects = append(effects, effect(i, i, o, api.ErrNone, 0))
	}
	wantVerify(t, h, effects, 0, api.OK)
	for i := range effects {
		for j := i; j < len(effects); j++ {
			other := slices.Clone(effects)
			other[i].Value, other[j].Call.Session = 1, 17
			wantVerify(t, h, other, i, api.ErrWitness)
			less := slices.Delete(slices.Clone(effects), i, j+1)
			wantVerify(t, h, less, len(less)+i, api.ErrWitness)
		}
	}
	wantVerify(t, h[:5], effects, 5, api.ErrWitness)
	wantVerify(t, h[1:], effects[2:], 4, api.ErrWitness)
}

// A wrong effect ahead of all else counts, also where a call lacks its own.
func TestP1703EffectsFirst(t *testing.T) {
	h, dec := decs()
	wantVerify(t, h, []api.Effect{effect(4, 1, dec, api.OK, 0)}, 0, api.ErrWitness)
	wantVerify(t, h, []api.Effect{made(), effect(4, 7, dec, api.OK, 0)}, 1, api.ErrWitness)
	wantVerify(t, h, nil, 0, api.ErrWitness)
	wantVerify(t, []api.Past{open(5, dec, 0), h[1], h[0]}, nil, 1, api.ErrWitness)
}

// wantConsequence is P1704, of effects that Verify takes.
func wantConsequence(t *testing.T, history []api.Past, effects []api.Effect) {
	t.Helper()
	var order []api.Past
	m := atom.New()
	for _, e := range effects {
		answer, err := m.Do(e.Op, e.Value)
		i := slices.IndexFunc(history, func(p api.Past) bool { return p.Call == e.Call })
		if i < 0 {
			continue
		}
		p := history[i]
		if p.To != -1 && p.Err != api.ErrTimeout && (answer != p.Value || err != p.Err) {
			t.Errorf("%+v: the map answers %d, %d", p, answer, err)
		}
		for _, ahead := range order {
			if p.To != -1 && p.Err != api.ErrTimeout && p.To < ahead.From {
				t.Errorf("%+v stands ahead of %+v", ahead, p)
			}
		}
		order = append(order, p)
	}
	for _, p := range history {
		if partOf(p) == must && !slices.Contains(order, p) {
			t.Errorf("%+v does not stand there", p)
		}
	}
}
