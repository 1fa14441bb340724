package replica

import (
	"slices"

	"sluice/api"
	"sluice/epoch"
	"sluice/holds"
	"sluice/ledger"
)

// request is a call with what it asks for.
type request struct {
	call api.Call
	op   api.Op
}

// counter is what a replica has of a counter that it knows.
type counter struct {
	name    string
	ledger  *ledger.Ledger
	book    *holds.Book
	machine *epoch.Machine
	own     request   // that the own epoch is for; zero where there is none
	told    bool      // peers were told of the own epoch
	line    []request // that wait, in the order in which they came
	yielded api.Epoch // to which the last MsgYield went; where it was not frozen since then, this one is no target again
}

// know makes the counter of a name that is known from now on, with no rights.
func (r *Replica) know(name string, limit int) *counter {
	c := &counter{name: name}
	// none of these refuses what a right config, a good op or a message that was read says
	c.ledger, _ = ledger.New(limit)
	c.book, _ = holds.New(r.me, r.config.Holds)
	c.machine, _ = epoch.New(r.me, r.config.Replicas)
	r.counters[name] = c
	return c
}

// isGathering tells whether the target is the own epoch: what the ledger has is gathered then.
func (c *counter) isGathering() bool {
	return c.machine.Frozen() && c.machine.Target() == c.machine.Own()
}

// hasAll tells whether the own epoch has all: so it may be decided.
func (c *counter) hasAll() bool {
	limit, rights, held := c.numbers()
	return len(c.machine.Look(limit, rights, held)) > 0
}

// numbers tells what a machine asks for: the cap, all rights that are here and not held, and what is held here.
func (c *counter) numbers() (limit, rights, held int) {
	limit, _ = c.ledger.Cap()
	has := c.ledger.Rights()
	return limit, has.Down + has.Up, c.ledger.Held()
}

// leave takes a call out of the line: false, if it does not wait there.
func (c *counter) leave(call api.Call) bool {
	i := slices.IndexFunc(c.line, func(q request) bool { return q.call == call })
	if i < 0 {
		return false
	}
	c.line = slices.Delete(c.line, i, i+1)
	return true
}

// do does an op with the rights that are here; exact ones only where all are.
func (c *counter) do(o api.Op, now int) (int, api.Errno) {
	switch o.Kind {
	case api.OpInc:
		return 0, c.ledger.Inc(o.A)
	case api.OpDec:
		return 0, c.ledger.Dec(o.A)
	case api.OpHold:
		return c.book.Hold(c.ledger, o.A, now+o.B)
	case api.OpCommit:
		return c.book.Commit(c.ledger, o.A)
	case api.OpRelease:
		return c.book.Release(c.ledger, o.A)
	case api.OpTake:
		return c.takeExactly(o.A, o.B)
	case api.OpReset:
		return granted(o.A, c.ledger.Set(o.A))
	case api.OpRecap:
		_, recaps := c.ledger.Cap()
		return granted(o.A, c.ledger.Recap(o.A, recaps+1))
	}
	return c.value(), api.OK // OpRead
}

// value tells the counter's value, where all rights are here.
func (c *counter) value() int { return c.ledger.Rights().Down }

func (c *counter) takeExactly(expected, amount int) (int, api.Errno) {
	value := c.value()
	if value != expected {
		return 0, api.ErrMismatch
	}
	return granted(value, c.ledger.Dec(amount))
}

// granted tells a value where there is no error.
func granted(value int, e api.Errno) (int, api.Errno) {
	if e != api.OK {
		return 0, e
	}
	return value, api.OK
}

func isExact(kind int) bool {
	switch kind {
	case api.OpRead, api.OpTake, api.OpReset, api.OpRecap:
		return true
	}
	return false
}
