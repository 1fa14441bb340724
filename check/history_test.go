package check_test

import (
	"math"
	"testing"

	"sluice/api"
)

// wantWrong: the history is not right, whatever the effects are, and wherever the wrong call stands.
func wantWrong(t *testing.T, history []api.Past) {
	t.Helper()
	for _, h := range [][]api.Past{history, reversed(history)} {
		wantVerify(t, h, nil, 0, api.ErrArg)
		wantVerify(t, h, []api.Effect{made()}, 0, api.ErrArg)
		wantVerify(t, h, []api.Effect{effect(-1, 9, create(), api.OK, 0)}, 0, api.ErrArg)
		wantRefused(t, h, api.ErrArg)
	}
}

// look is a call that can stand in every history without an effect.
func look(session, id, from, to int) api.Past {
	return api.Past{Call: api.Call{Session: session, Id: id}, Op: op(api.OpLook), From: from, To: to}
}

func TestP1701Kinds(t *testing.T) {
	for _, kind := range []int{math.MinInt, -1, 0, 12, 13, 1 << 32, 1<<32 + 1, 1<<32 + 7, math.MaxInt} {
		wantWrong(t, []api.Past{created(), past(1, op(kind, 1), 4, 4, api.OK, 0)})
		wantWrong(t, []api.Past{past(1, op(kind, 1), 4, 4, api.ErrBusy, 0)})
	}
	for kind := api.OpCreate; kind <= api.OpLook; kind++ {
		history := []api.Past{past(1, op(kind, 1), 4, 4, api.ErrBusy, 0)}
		wantVerify(t, history, nil, 0, api.OK)
		wantSearch(t, history)
	}
}

func TestP1701Times(t *testing.T) {
	for _, c := range [][2]int{
		{-1, -1}, {-1, 0}, {-1, 5}, {-2, -2}, {math.MinInt, -1}, {math.MinInt, math.MaxInt}, // From is below 0
		{0, -2}, {5, 4}, {5, 0}, {1, 0}, {5, -2}, {5, math.MinInt}, {math.MaxInt, math.MaxInt - 1}, // To is below From, and not -1
	} {
		wantWrong(t, []api.Past{created(), look(1, 1, c[0], c[1])})
		wantWrong(t, []api.Past{look(1, 1, c[0], c[1])})
		wantWrong(t, []api.Past{created(), past(1, op(api.OpRead), c[0], c[1], api.ErrTimeout, 0)})
	}
	for _, c := range [][2]int{{0, -1}, {0, 0}, {0, math.MaxInt}, {5, -1}, {5, 5}, {5, 6}, {math.MaxInt, -1}, {math.MaxInt, math.MaxInt}} {
		wantVerify(t, []api.Past{created(), look(1, 1, c[0], c[1])}, []api.Effect{made()}, 0, api.OK)
		wantSearch(t, []api.Past{created(), look(1, 1, c[0], c[1])}, 0)
	}
}

// A session and an id together name a call, and each once.
func TestP1701Calls(t *testing.T) {
	for _, call := range []api.Call{{}, {Session: 1, Id: 1}, {Session: -1}, {Session: math.MaxInt, Id: math.MinInt}} {
		l := look(call.Session, call.Id, 2, 3)
		wantWrong(t, []api.Past{l, l})
		wantWrong(t, []api.Past{l, created(), look(7, 7, 0, 0), {Call: call, Op: op(api.OpRead), From: 9, To: 9}})
	}
	history := []api.Past{look(1, 1, 0, 0), look(1, 2, 0, 0), look(2, 1, 0, 0), look(2, 2, 0, 0), look(0, 3, 0, 0), look(-1, 1, 0, 0)}
	wantVerify(t, history, nil, 0, api.OK)
	wantSearch(t, history)
}

// A name that is none, and numbers that may not be, are no fault of the history.
func TestP1701Ops(t *testing.T) {
	for _, o := range []api.Op{{Kind: 1}, opOf("a b", 3, 1), op(api.OpInc, math.MinInt, math.MaxInt), opOf("12345678901234567", 7)} {
		wantVerify(t, []api.Past{past(1, o, 1, 1, api.ErrArg, 0)}, nil, 0, api.OK)
		wantSearch(t, []api.Past{past(1, o, 1, 1, api.ErrArg, 0)})
		wantSearch(t, []api.Past{created(), open(1, o, 1)}, 0)
		wantVerify(t, []api.Past{open(1, o, 1)}, []api.Effect{effect(1, 1, o, api.ErrArg, 0)}, 0, api.ErrWitness)
		wantRefused(t, []api.Past{past(1, o, 1, 1, api.OK, 0)}, api.ErrOrderly)
	}
}

const (
	none = iota
	may
	must
)

// partOf is P1702.
func partOf(p api.Past) int {
	k, e := p.Op.Kind, p.Err
	switch {
	case k == api.OpLook:
		return none
	case p.To == -1 || e == api.ErrTimeout || e == api.ErrRights && (k == api.OpInc || k == api.OpDec):
		return may
	case e == 0 || e == 110 || e == 100 || e == 101 || e == 70:
		return must
	case e == 61 && (k == api.OpCreate || k == api.OpReset || k == api.OpRecap), e == 60 && k == api.OpTake:
		return must
	}
	return none
}

// Of every kind and answer: what must have an effect, and has none, is wrong.
func TestP1702Must(t *testing.T) {
	for kind := api.OpCreate; kind <= api.OpLook; kind++ {
		for _, err := range allErrs() {
			for _, to := range []int{-1, 4, 9} {
				p := past(1, op(kind, 1), 4, to, err, 0)
				number, want := 0, api.OK
				if partOf(p) == must {
					number, want = 2, api.ErrWitness
				}
				wantVerify(t, []api.Past{created(), p}, []api.Effect{made()}, number, want)
				wantVerify(t, []api.Past{p, created()}, []api.Effect{made()}, number/2, want)
			}
		}
	}
}

// An effect of a call that has none is wrong, though the map would allow it.
func TestP1702None(t *testing.T) {
	hold := op(api.OpHold, 9, 1)
	e := effect(5, 1, hold, api.ErrRights, 0)
	wantVerify(t, []api.Past{created(), past(1, hold, 4, 9, api.ErrRights, 0)}, []api.Effect{made(), e}, 1, api.ErrWitness)
	wantVerify(t, []api.Past{created(), past(1, hold, 4, 9, api.ErrTimeout, 0)}, []api.Effect{made(), e}, 0, api.OK)
	wantVerify(t, []api.Past{created(), past(1, hold, 4, -1, api.ErrRights, 0)}, []api.Effect{made(), e}, 0, api.OK)
	for _, to := range []int{-1, 9} {
		for _, err := range []api.Errno{api.OK, api.ErrTimeout, api.ErrNone} {
			l := past(1, op(api.OpLook), 4, to, err, 4)
			wantVerify(t, []api.Past{created(), l}, []api.Effect{made()}, 0, api.OK)
			for _, told := range []api.Errno{api.OK, api.ErrArg, api.ErrNone, err} {
				wantVerify(t, []api.Past{created(), l}, []api.Effect{made(), effect(5, 1, l.Op, told, 4)}, 1, api.ErrWitness)
			}
			wantSearch(t, []api.Past{created(), l}, 0)
		}
	}
}

// What may have an effect is well with it, and without it.
func TestP1702May(t *testing.T) {
	for _, p := range []api.Past{
		open(1, op(api.OpInc, 1), 4), open(1, op(api.OpDec, 1), 4), past(1, op(api.OpInc, 1), 4, 6, api.ErrTimeout, 0),
		past(1, op(api.OpDec, 4), 4, 6, api.ErrTimeout, 77), past(1, op(api.OpDec, 1), 4, -1, api.ErrBusy, 5),
	} {
		wantVerify(t, []api.Past{created(), p}, []api.Effect{made()}, 0, api.OK)
		wantVerify(t, []api.Past{created(), p}, []api.Effect{made(), effect(5, 1, p.Op, api.OK, 0)}, 0, api.OK)
		wantSearch(t, []api.Past{created(), p}, 0)
	}
	for _, o := range []api.Op{op(api.OpInc, 7), op(api.OpDec, 5)} {
		p := past(1, o, 4, 6, api.ErrRights, 0)
		wantVerify(t, []api.Past{created(), p}, []api.Effect{made()}, 0, api.OK)
		wantVerify(t, []api.Past{created(), p}, []api.Effect{made(), effect(5, 1, o, api.ErrRights, 0)}, 0, api.OK)
	}
}
