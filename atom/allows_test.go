package atom_test

import (
	"math"
	"testing"

	"sluice/api"
)

// An effect of each kind that could happen: it has happened then.
func TestP1603Done(t *testing.T) {
	m := made(t)
	for _, c := range []struct {
		o                  api.Op
		value              int
		left, held, limits int
	}{
		{op(api.OpCreate, "k", 10, 4), 0, 4, 0, 10},
		{op(api.OpInc, "k", 5), 0, 9, 0, 10},
		{op(api.OpDec, "k", 1), 0, 8, 0, 10},
		{op(api.OpHold, "k", 3, 1), 16, 5, 3, 10},
		{op(api.OpHold, "k", 2, 1), 1, 3, 5, 10},
		{op(api.OpHold, "k", 1, 1), math.MaxInt, 2, 6, 10},
		{op(api.OpCommit, "k", 16), 3, 2, 3, 10},
		{op(api.OpRelease, "k", 1), 2, 4, 1, 10},
		{op(api.OpExpire, "k", math.MaxInt), 0, 5, 0, 10},
		{op(api.OpRead, "k"), 5, 5, 0, 10},
		{op(api.OpTake, "k", 5, 2), 5, 3, 0, 10},
		{op(api.OpReset, "k", 7), 7, 7, 0, 10},
		{op(api.OpRecap, "k", 9), 9, 7, 0, 9},
	} {
		before := seen(m, "k")
		if c.o.Kind != api.OpHold { // with another number it would be another hold
			wantAllows(t, m, c.o, api.OK, c.value+1, false)
			wantAllows(t, m, c.o, api.OK, c.value-1, false)
		}
		for _, e := range []api.Errno{api.ErrArg, api.ErrRights, api.ErrCap, api.ErrHold, api.ErrNone, api.ErrExists, api.ErrMismatch, api.ErrTimeout, -1} {
			wantAllows(t, m, c.o, e, c.value, false)
			wantAllows(t, m, c.o, e, 0, false)
		}
		if after := seen(m, "k"); after != before {
			t.Errorf("%+v: effects that could not happen have changed %v to %v", c.o, before, after)
		}
		wantAllows(t, m, c.o, api.OK, c.value, true)
		wantPeek(t, m, "k", c.left, c.held, c.limits)
	}
}

// A hold's number is the effect's value: one that was never used.
func TestP1603HoldNumbers(t *testing.T) {
	m := with(t, 10, 6)
	for _, number := range []int{0, -1, -16, math.MinInt} {
		wantAllows(t, m, op(api.OpHold, "k", 1, 1), api.OK, number, false)
	}
	wantAllows(t, m, op(api.OpHold, "k", 1, 1), api.OK, 16, true)
	wantAllows(t, m, op(api.OpHold, "k", 1, 1), api.OK, 16, false)
	wantAllows(t, m, op(api.OpCommit, "k", 16), api.OK, 1, true)
	wantAllows(t, m, op(api.OpHold, "k", 1, 1), api.OK, 16, false)
	wantPeek(t, m, "k", 5, 0, 10)
	// The effect could not happen, and the number is not used.
	wantAllows(t, m, op(api.OpHold, "k", 1, 1), api.ErrRights, 17, false)
	wantAllows(t, m, op(api.OpHold, "k", 9, 1), api.OK, 17, false)
	wantAllows(t, m, op(api.OpHold, "k", 1, 1), api.OK, 17, true)
	wantPeek(t, m, "k", 4, 1, 10)
}

// What is answered with an error is an effect too, but ErrArg; it changes nothing.
func TestP1603Errors(t *testing.T) {
	m := with(t, 10, 4)
	wantHold(t, m, 1, 16)
	for _, c := range []struct {
		o   api.Op
		err api.Errno
	}{
		{op(api.OpCreate, "k", 10, 4), api.ErrExists}, {op(api.OpCreate, "j", 3, 4), api.ErrCap}, {op(api.OpInc, "j", 1), api.ErrNone},
		{op(api.OpInc, "k", 7), api.ErrRights}, {op(api.OpDec, "k", 4), api.ErrRights}, {op(api.OpHold, "k", 4, 1), api.ErrRights},
		{op(api.OpHold, "j", 4, 1), api.ErrNone}, {op(api.OpCommit, "k", 17), api.ErrHold}, {op(api.OpRelease, "k", 15), api.ErrHold},
		{op(api.OpExpire, "k", 1), api.ErrHold}, {op(api.OpRead, "j"), api.ErrNone}, {op(api.OpTake, "k", 4, 1), api.ErrMismatch},
		{op(api.OpTake, "k", 3, 4), api.ErrRights}, {op(api.OpReset, "k", 10), api.ErrCap}, {op(api.OpRecap, "k", 3), api.ErrCap},
	} {
		wantAllows(t, m, c.o, c.err, 0, true)
		wantAllows(t, m, c.o, c.err, 0, true)
		wantAllows(t, m, c.o, c.err, 1, false)
		wantAllows(t, m, c.o, c.err, -1, false)
		wantAllows(t, m, c.o, c.err, 99, false)
		wantAllows(t, m, c.o, c.err+1, 0, false)
		wantAllows(t, m, c.o, api.OK, 0, false)
		wantAllows(t, m, c.o, api.ErrArg, 0, false)
		wantPeek(t, m, "k", 3, 1, 10)
	}
	wantNames(t, m, "k")
}

// ErrArg is what the map answers to these, and no effect all the same.
func TestP1603ErrArg(t *testing.T) {
	m := with(t, 10, 4)
	wantHold(t, m, 1, 16)
	for _, o := range []api.Op{
		op(api.OpLook, "k"), op(0, "k"), op(13, "k"), op(api.OpInc, "k", 0), op(api.OpInc, "a b", 1), op(api.OpRead, ""),
		op(api.OpCreate, "j", 0, 0), op(api.OpHold, "k", 1, 0), op(api.OpHold, "k", 1, 1),
	} {
		wantDone(t, m, o, 0, 0, api.ErrArg)
		wantAllows(t, m, o, api.ErrArg, 0, false)
		wantAllows(t, m, o, api.OK, 0, false)
		if o != op(api.OpHold, "k", 1, 1) {
			wantAllows(t, m, o, api.ErrArg, 17, false)
			wantAllows(t, m, o, api.OK, 17, false)
		}
	}
	wantAllows(t, m, op(api.OpHold, "k", 1, 1), api.ErrArg, 16, false)
	wantPeek(t, m, "k", 3, 1, 10)
}

// Which call it was, and in which step, is nothing to the map.
func TestP1603StepAndCall(t *testing.T) {
	m := with(t, 100, 50)
	for i, n := range edges() {
		e := api.Effect{Step: n, Call: api.Call{Session: -n, Id: n}, Op: op(api.OpDec, "k", 1)}
		if !m.Allows(e) {
			t.Errorf("Allows(%+v): false", e)
		}
		wantPeek(t, m, "k", 49-i, 0, 100)
	}
}

// What could happen once can not always happen again.
func TestP1603Again(t *testing.T) {
	m := made(t)
	wantAllows(t, m, op(api.OpCreate, "k", 10, 4), api.OK, 0, true)
	wantAllows(t, m, op(api.OpCreate, "k", 10, 4), api.OK, 0, false)
	wantAllows(t, m, op(api.OpTake, "k", 4, 1), api.OK, 4, true)
	wantAllows(t, m, op(api.OpTake, "k", 4, 1), api.OK, 4, false)
	wantAllows(t, m, op(api.OpTake, "k", 4, 1), api.ErrMismatch, 0, true)
	wantAllows(t, m, op(api.OpDec, "k", 2), api.OK, 0, true)
	wantAllows(t, m, op(api.OpDec, "k", 2), api.OK, 0, false)
	wantAllows(t, m, op(api.OpDec, "k", 2), api.ErrRights, 0, true)
	wantPeek(t, m, "k", 1, 0, 10)
}
