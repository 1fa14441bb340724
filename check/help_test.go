package check_test

import (
	"slices"
	"testing"

	"sluice/api"
	"sluice/check"
)

// dice: numbers that hang on its beginning alone.
type dice uint64

func (d *dice) roll(n int) int {
	*d = *d*6364136223846793005 + 1442695040888963407
	return int(uint64(*d) >> 33 % uint64(n))
}

func (d *dice) bytes(n int) []byte {
	b := make([]byte, n)
	for i := range b {
		b[i] = byte(d.roll(256))
	}
	return b
}

// op is one of k.
func op(kind int, numbers ...int) api.Op {
	return opOf("k", kind, numbers...)
}

func opOf(name string, kind int, numbers ...int) api.Op {
	o := api.Op{Kind: kind, Name: name}
	if len(numbers) > 0 {
		o.A = numbers[0]
	}
	if len(numbers) > 1 {
		o.B = numbers[1]
	}
	return o
}

func first(session int) api.Call { return api.Call{Session: session, Id: 1} }

// past is the first call of a session, with its answer.
func past(session int, o api.Op, from, to int, err api.Errno, value int) api.Past {
	return api.Past{Call: first(session), Op: o, From: from, To: to, Err: err, Value: value}
}

// open is one that is not answered.
func open(session int, o api.Op, from int) api.Past {
	return past(session, o, from, -1, api.OK, 0)
}

// effect is one of the first call of a session.
func effect(step, session int, o api.Op, err api.Errno, value int) api.Effect {
	return api.Effect{Step: step, Call: first(session), Op: o, Err: err, Value: value}
}

// expired is an effect of no call.
func expired(step, hold int) api.Effect {
	return api.Effect{Step: step, Call: api.Call{Session: -1}, Op: op(api.OpExpire, hold)}
}

// create, created and made: k has the cap 10 and the value 4.
func create() api.Op { return op(api.OpCreate, 10, 4) }

func created() api.Past { return past(0, create(), 0, 3, api.OK, 0) }

func made() api.Effect { return effect(1, 0, create(), api.OK, 0) }

func wantVerify(t *testing.T, history []api.Past, effects []api.Effect, number int, err api.Errno) {
	t.Helper()
	if n, e := check.Verify(history, effects); n != number || e != err {
		t.Errorf("Verify(%+v, %+v): %d, %d, want %d, %d", history, effects, n, e, number, err)
	}
}

func wantSearch(t *testing.T, history []api.Past, order ...int) {
	t.Helper()
	if list, e := check.Search(history); e != api.OK || !slices.Equal(list, order) {
		t.Errorf("Search(%+v): %v, %d, want %v", history, list, e, order)
	}
}

func wantRefused(t *testing.T, history []api.Past, err api.Errno) {
	t.Helper()
	if list, e := check.Search(history); e != err || len(list) != 0 {
		t.Errorf("Search(%+v): %v, %d, want %d", history, list, e, err)
	}
}

// allErrs: all numbers that a call can be answered with, and some that are none.
func allErrs() []api.Errno {
	return []api.Errno{
		api.OK, api.ErrArg, api.ErrLong, api.ErrReplica, api.ErrFrame, api.ErrWire, api.ErrFull, api.ErrRights, api.ErrCap, api.ErrFrozen,
		api.ErrHold, api.ErrHolds, api.ErrNone, api.ErrExists, api.ErrCounters, api.ErrMismatch, api.ErrTimeout, api.ErrStale, api.ErrOrder,
		api.ErrSession, api.ErrPending, api.ErrBusy, api.ErrWitness, api.ErrOrderly, -1, 1000,
	}
}

// reversed tells the same calls, the last one first.
func reversed(history []api.Past) []api.Past {
	other := slices.Clone(history)
	slices.Reverse(other)
	return other
}
