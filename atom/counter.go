package atom

import "sluice/api"

// deed is what an op comes to: its answer, or why it is refused, and the closure over its counter that does it. Nothing
// has changed till that is called: so an effect is held against the answer ahead of it.
type deed struct {
	answer int
	err    api.Errno
	do     func() counter // tells the counter as it is then; nil, if the op is refused
}

func refused(e api.Errno) deed { return deed{err: e} }

// counter is a counter as it stands in the map. A deed's closure is over a copy; the holds alone are shared by the two,
// and nobody but the closure writes there.
type counter struct {
	name               string
	limit, value, held int
	holds              map[int]int // amounts by numbers; gone, where the hold has ended: its number never comes again
}

// gone stands for an amount: a hold that there is has 1 or more.
const gone = 0

// plan tells what a right op comes to.
func (c counter) plan(o api.Op, hold int) deed {
	switch o.Kind {
	case api.OpInc:
		return c.inc(o.A)
	case api.OpDec:
		return c.dec(o.A)
	case api.OpHold:
		return c.hold(o.A, hold)
	case api.OpCommit, api.OpRelease, api.OpExpire:
		return c.end(o.Kind, o.A)
	case api.OpTake:
		return c.take(o.A, o.B)
	case api.OpReset:
		return c.reset(o.A)
	case api.OpRecap:
		return c.recap(o.A)
	}
	return c.read() // the only right kind that is left
}

func (c counter) inc(amount int) deed {
	if c.value+c.held+amount > c.limit {
		return refused(api.ErrRights)
	}
	return deed{do: func() counter {
		c.value += amount
		return c
	}}
}

func (c counter) dec(amount int) deed {
	if c.value < amount {
		return refused(api.ErrRights)
	}
	return deed{do: func() counter {
		c.value -= amount
		return c
	}}
}

func (c counter) hold(amount, number int) deed {
	_, used := c.holds[number]
	switch {
	case c.value < amount:
		return refused(api.ErrRights)
	case number < 1 || used:
		return refused(api.ErrArg)
	}
	return deed{answer: number, do: func() counter {
		c.value -= amount
		c.held += amount
		c.holds[number] = amount
		return c
	}}
}

// end ends a hold: what an OpCommit ends is spent, what the others end comes back.
func (c counter) end(kind, number int) deed {
	amount := c.holds[number]
	if amount == gone {
		return refused(api.ErrHold)
	}
	d := deed{answer: amount, do: func() counter {
		c.held -= amount
		c.holds[number] = gone
		if kind != api.OpCommit {
			c.value += amount
		}
		return c
	}}
	if kind == api.OpExpire {
		d.answer = 0
	}
	return d
}

func (c counter) read() deed {
	return deed{answer: c.value, do: func() counter { return c }}
}

func (c counter) take(value, amount int) deed {
	if c.value != value {
		return refused(api.ErrMismatch)
	}
	d := c.dec(amount)
	if d.err == api.OK {
		d.answer = value
	}
	return d
}

func (c counter) reset(value int) deed {
	if value+c.held > c.limit {
		return refused(api.ErrCap)
	}
	return deed{answer: value, do: func() counter {
		c.value = value
		return c
	}}
}

func (c counter) recap(limit int) deed {
	if c.value+c.held > limit {
		return refused(api.ErrCap)
	}
	return deed{answer: limit, do: func() counter {
		c.limit = limit
		return c
	}}
}
