package cluster_test

import (
	"sluice/api"
	"sluice/holds"
)

// kept is a counter as one place would keep it.
type kept struct {
	limit, value int
	holds        map[int]int // amounts, by the holds' numbers
	used         map[int]bool
}

func (k *kept) held() int {
	sum := 0
	for _, amount := range k.holds {
		sum += amount
	}
	return sum
}

// holdsOf counts the holds of one replica.
func (k *kept) holdsOf(me int) int {
	n := 0
	for number := range k.holds {
		if holds.Of(number) == me {
			n++
		}
	}
	return n
}

// place is all counters at one place.
type place map[string]*kept

// do does an op, and tells what it is answered; number is that of a hold that is made by it.
func (p place) do(o api.Op, number int) (api.Errno, int) {
	k := p[o.Name]
	switch {
	case o.Kind != api.OpCreate && k == nil:
		return api.ErrNone, 0
	case o.Kind != api.OpCreate:
		return k.do(o, number)
	case k != nil:
		return api.ErrExists, 0
	case o.B > o.A:
		return api.ErrCap, 0
	}
	p[o.Name] = &kept{limit: o.A, value: o.B, holds: map[int]int{}, used: map[int]bool{}}
	return api.OK, 0
}

func (k *kept) do(o api.Op, number int) (api.Errno, int) {
	switch o.Kind {
	case api.OpInc:
		return k.move(o.A)
	case api.OpDec:
		return k.move(-o.A)
	case api.OpHold:
		if e, _ := k.move(-o.A); e != api.OK {
			return e, 0
		}
		if number < 1 || k.used[number] {
			return api.ErrArg, 0
		}
		k.holds[number], k.used[number] = o.A, true
		return api.OK, number
	case api.OpCommit, api.OpRelease, api.OpExpire:
		return k.end(o)
	}
	return k.exact(o)
}

// move adds to the value, as far as there are rights for it.
func (k *kept) move(by int) (api.Errno, int) {
	if k.value+by < 0 || by > 0 && k.value+k.held()+by > k.limit {
		return api.ErrRights, 0
	}
	k.value += by
	return api.OK, 0
}

func (k *kept) end(o api.Op) (api.Errno, int) {
	amount, there := k.holds[o.A]
	if !there {
		return api.ErrHold, 0
	}
	delete(k.holds, o.A)
	if o.Kind != api.OpCommit {
		k.value += amount
	}
	if o.Kind == api.OpExpire {
		amount = 0
	}
	return api.OK, amount
}

func (k *kept) exact(o api.Op) (api.Errno, int) {
	before := k.value
	switch o.Kind {
	case api.OpRead:
		return api.OK, before
	case api.OpTake:
		if before != o.A {
			return api.ErrMismatch, 0
		}
		if e, _ := k.move(-o.B); e != api.OK {
			return e, 0
		}
		return api.OK, before
	case api.OpReset:
		if o.A+k.held() > k.limit {
			return api.ErrCap, 0
		}
		k.value = o.A
		return api.OK, o.A
	case api.OpRecap:
		if before+k.held() > o.A {
			return api.ErrCap, 0
		}
		k.limit = o.A
		return api.OK, o.A
	}
	return api.ErrArg, 0
}
