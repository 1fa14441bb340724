package check_test

import (
	"math"
	"testing"

	"sluice/api"
)

// The chapter's examples.
func TestP1705Examples(t *testing.T) {
	read, reset := op(api.OpRead), op(api.OpReset, 7)
	wantSearch(t, []api.Past{created(), past(1, read, 2, 5, api.OK, 4), past(2, read, 0, 9, api.ErrNone, 0)}, 2, 0, 1)
	wantSearch(t, []api.Past{created(), open(1, reset, 1), past(2, read, 4, 9, api.OK, 7)}, 0, 1, 2)
	wantRefused(t, []api.Past{created(), past(1, read, 4, 9, api.OK, 5)}, api.ErrOrderly)
	wantSearch(t, nil)
	wantSearch(t, []api.Past{})
}

// Up to MaxSearch calls, whatever they are; the fault of a history is told first.
func TestP1705Deep(t *testing.T) {
	var looks, reads []api.Past
	var order []int
	for i := range 40 {
		looks = append(looks, past(i, op(api.OpLook), 0, 0, api.OK, 0))
		reads = append(reads, past(i, op(api.OpRead), 0, 0, api.ErrNone, 0))
		order = append(order, i)
	}
	for n := range 40 {
		if n <= 12 {
			wantSearch(t, looks[:n])
			wantSearch(t, reads[:n], order[:n]...)
			continue
		}
		wantRefused(t, looks[:n], api.ErrDeep)
		wantRefused(t, reads[:n], api.ErrDeep)
	}
	looks[39].From = -1
	wantRefused(t, looks, api.ErrArg)
	wantRefused(t, append(reads[:13:13], reads[0]), api.ErrArg)
	wantVerify(t, reads[:13], nil, 0, api.ErrWitness) // Verify knows no such limit
}

// What must have an effect stands there, what has none does not.
func TestP1705Who(t *testing.T) {
	for _, c := range []struct {
		p      api.Past
		stands bool
	}{
		{past(1, op(api.OpDec, 4), 4, 9, api.OK, 0), true},
		{past(1, op(api.OpInc, 6), 4, 9, api.OK, 0), true},
		{past(1, op(api.OpHold, 4, 1), 4, 9, api.OK, 5), true},
		{past(1, op(api.OpTake, 3, 1), 4, 9, api.ErrMismatch, 0), true},
		{past(1, op(api.OpTake, 4, 5), 4, 9, api.ErrRights, 0), true},
		{past(1, op(api.OpReset, 11), 4, 9, api.ErrCap, 0), true},
		{past(1, op(api.OpRecap, 3), 4, 9, api.ErrCap, 0), true},
		{past(1, opOf("j", api.OpCreate, 3, 4), 4, 9, api.ErrCap, 0), true},
		{past(1, op(api.OpCreate, 3, 4), 4, 9, api.ErrExists, 0), true},
		{past(1, op(api.OpCommit, 3), 4, 9, api.ErrHold, 0), true},
		{past(1, opOf("j", api.OpHold, 3, 1), 4, 9, api.ErrNone, 0), true},
		{past(1, op(api.OpDec, 9), 4, 9, api.ErrRights, 0), false},
		{past(1, op(api.OpDec, 1), 4, 9, api.ErrRights, 0), false}, // on the spot there were fewer
		{past(1, op(api.OpInc, 9), 4, 9, api.ErrRights, 0), false},
		{past(1, op(api.OpHold, 9, 1), 4, 9, api.ErrRights, 0), false},
		{past(1, op(api.OpHold, 1, 1), 4, 9, api.ErrHolds, 0), false},
		{past(1, op(api.OpDec, 1), 4, 9, api.ErrCap, 0), false},
		{past(1, op(api.OpRead), 4, 9, api.ErrBusy, 0), false},
		{past(1, op(api.OpRead), 4, 9, api.ErrTimeout, 0), false}, // needless
		{open(1, op(api.OpReset, 4), 4), false},
		{past(1, op(api.OpLook), 4, 9, api.OK, 4), false},
		{past(1, op(api.OpLook), 4, 9, api.ErrNone, 0), false},
	} {
		if c.stands {
			wantSearch(t, []api.Past{created(), c.p}, 0, 1)
			wantSearch(t, []api.Past{c.p, created()}, 1, 0)
		} else {
			wantSearch(t, []api.Past{created(), c.p}, 0)
			wantSearch(t, []api.Past{c.p, created()}, 1)
		}
	}
}

// An OpInc or OpDec that is answered with ErrRights never stands there, though its doing would explain what is read.
func TestP1705NoRights(t *testing.T) {
	for _, o := range []api.Op{op(api.OpDec, 1), op(api.OpInc, 1)} {
		read := past(2, op(api.OpRead), 9, 9, api.OK, 4+2*(api.OpDec-o.Kind)-1)
		wantRefused(t, []api.Past{created(), past(1, o, 4, 5, api.ErrRights, 0), read}, api.ErrOrderly)
		wantSearch(t, []api.Past{created(), past(1, o, 4, 5, api.ErrTimeout, 0), read}, 0, 1, 2)
		wantSearch(t, []api.Past{created(), past(1, o, 4, -1, api.ErrRights, 0), read}, 0, 1, 2) // it is not answered
		wantRefused(t, []api.Past{created(), past(1, o, 4, 5, api.ErrBusy, 0), read}, api.ErrOrderly)
	}
}

// What may have an effect is done with OK, or not at all.
func TestP1705MayIsOK(t *testing.T) {
	read := past(2, op(api.OpRead), 9, 9, api.OK, 4)
	for _, o := range []api.Op{op(api.OpDec, 5), op(api.OpReset, 11), op(api.OpTake, 3, 1), op(api.OpCommit, 1), opOf("j", api.OpInc, 1), op(api.OpInc, 0)} {
		wantSearch(t, []api.Past{open(1, o, 0), created(), read}, 1, 2)
	}
	// A place that can stand there makes an order less, though it explains nothing.
	wantSearch(t, []api.Past{open(1, op(api.OpRead), 0), created(), read}, 1, 0, 2)
	wantSearch(t, []api.Past{created(), open(1, op(api.OpReset, 4), 0), read}, 0, 1, 2)
	wantSearch(t, []api.Past{created(), read, open(1, op(api.OpReset, 4), 0)}, 0, 1)
}

// One call ahead of another one's coming stands ahead of it; where they meet, the less place does.
func TestP1705Time(t *testing.T) {
	none := op(api.OpRead)
	at := func(session, from, to int) api.Past { return past(session, none, from, to, api.ErrNone, 0) }
	wantSearch(t, []api.Past{at(0, 5, 9), at(1, 0, 4)}, 1, 0)
	wantSearch(t, []api.Past{at(0, 5, 9), at(1, 0, 5)}, 0, 1)
	wantSearch(t, []api.Past{at(0, 0, 4), at(1, 5, 9)}, 0, 1)
	wantSearch(t, []api.Past{at(0, 3, 3), at(1, 2, 2), at(2, 1, 1), at(3, 0, 0)}, 3, 2, 1, 0)
	wantSearch(t, []api.Past{at(0, 3, 3), at(1, 0, 9), at(2, 1, 1), at(3, 0, 0)}, 1, 3, 2, 0)
	wantSearch(t, []api.Past{at(0, math.MaxInt, math.MaxInt), at(1, 0, math.MaxInt-1)}, 1, 0)
	// The reset came behind the read's answer; one that met it explains it.
	for from, is := range map[int]bool{5: false, 4: true} {
		h := []api.Past{created(), past(1, op(api.OpReset, 7), from, 9, api.OK, 7), past(2, op(api.OpRead), 4, 4, api.OK, 7)}
		if is {
			wantSearch(t, h, 0, 1, 2)
		} else {
			wantRefused(t, h, api.ErrOrderly)
		}
	}
}

// A call that is not answered, or with ErrTimeout, came at its From; it may work at any time from then on.
func TestP1705TimeOpen(t *testing.T) {
	reset, read := op(api.OpReset, 7), op(api.OpRead)
	late := past(2, read, 50, 60, api.OK, 7)
	for _, p := range []api.Past{open(1, reset, 1), past(1, reset, 1, 2, api.ErrTimeout, 0), past(1, reset, 60, 60, api.ErrTimeout, 0), open(1, reset, 60)} {
		wantSearch(t, []api.Past{created(), p, late}, 0, 1, 2)
		wantSearch(t, []api.Past{late, p, created()}, 2, 1, 0)
		p.From, p.To = 61, max(p.To, -1)
		if p.To != -1 {
			p.To = 99
		}
		wantRefused(t, []api.Past{created(), p, late}, api.ErrOrderly)
	}
	// It works ahead of a call, though its ErrTimeout came ahead of that of another one that must stand ahead of it.
	h := []api.Past{created(), past(1, reset, 1, 2, api.ErrTimeout, 0), past(2, read, 5, 6, api.OK, 4), past(3, read, 7, 8, api.OK, 7)}
	wantSearch(t, h, 0, 2, 1, 3)
}

// Of several orders the least.
func TestP1705Least(t *testing.T) {
	dec, inc, read := op(api.OpDec, 1), op(api.OpInc, 1), op(api.OpRead)
	wantSearch(t, []api.Past{created(), past(1, dec, 0, 9, 0, 0), past(2, dec, 0, 9, 0, 0), past(3, inc, 0, 9, 0, 0)}, 0, 1, 2, 3)
	wantSearch(t, []api.Past{past(1, inc, 0, 9, 0, 0), past(2, dec, 0, 9, 0, 0), past(3, create(), 0, 9, 0, 0)}, 2, 0, 1)
	wantSearch(t, []api.Past{created(), open(1, inc, 0), open(2, dec, 0), open(3, dec, 0), past(4, read, 9, 9, 0, 3)}, 0, 1, 2, 3, 4)
	wantSearch(t, []api.Past{created(), open(1, inc, 0), open(2, dec, 0), past(4, read, 9, 9, 0, 3)}, 0, 2, 3)
	wantSearch(t, []api.Past{past(4, read, 9, 9, 0, 3), open(3, dec, 0), open(2, dec, 0), open(1, inc, 0), created()}, 4, 1, 0)
	wantSearch(t, []api.Past{past(4, read, 9, 9, 0, 2), open(3, inc, 0), open(2, dec, 0), open(1, dec, 0), created()}, 4, 2, 3, 0)
	wantSearch(t, []api.Past{past(4, read, 9, 9, 0, 3), created(), open(2, dec, 0), past(5, read, 9, 9, 0, 3)}, 1, 2, 0, 3)
}

// The map's answers are the calls' own: each error, and each value.
func TestP1705Answers(t *testing.T) {
	read := op(api.OpRead)
	h := []api.Past{created(), past(1, op(api.OpTake, 4, 1), 4, 9, api.OK, 4), past(2, read, 10, 10, api.OK, 3)}
	wantSearch(t, h, 0, 1, 2)
	for _, value := range []int{0, 3, 5, -4, math.MaxInt} {
		h[1].Value = value
		wantRefused(t, h, api.ErrOrderly)
	}
	h[1].Value, h[1].Err = 0, api.ErrMismatch
	wantRefused(t, h, api.ErrOrderly)
	wantRefused(t, []api.Past{past(1, read, 4, 9, api.ErrNone, 1)}, api.ErrOrderly)
	wantRefused(t, []api.Past{created(), past(1, read, 4, 9, api.ErrNone, 0)}, api.ErrOrderly)
	wantRefused(t, []api.Past{created(), past(1, create(), 4, 9, api.OK, 0)}, api.ErrOrderly)
	wantRefused(t, []api.Past{created(), past(1, op(api.OpRead, 1), 4, 9, api.OK, 4)}, api.ErrOrderly) // no right op
	wantSearch(t, []api.Past{past(1, create(), 0, 9, api.ErrExists, 0), created()}, 1, 0)
}

// A hold that was answered has the number of its answer; it does not end by itself.
func TestP1705Holds(t *testing.T) {
	hold, commit, release, read := op(api.OpHold, 3, 1), op(api.OpCommit, 16), op(api.OpRelease, 16), op(api.OpRead)
	held := past(1, hold, 1, 9, api.OK, 16)
	wantSearch(t, []api.Past{created(), held, past(2, commit, 1, 9, api.OK, 3)}, 0, 1, 2)
	wantSearch(t, []api.Past{created(), past(2, commit, 1, 9, api.OK, 3), held}, 0, 2, 1)
	wantSearch(t, []api.Past{created(), held, past(2, commit, 1, 9, api.ErrHold, 0)}, 0, 2, 1)
	wantRefused(t, []api.Past{created(), held, past(2, commit, 10, 11, api.ErrHold, 0)}, api.ErrOrderly)
	wantRefused(t, []api.Past{created(), held, past(2, read, 10, 11, api.OK, 4)}, api.ErrOrderly)
	wantSearch(t, []api.Past{created(), held, open(3, release, 9), past(2, read, 10, 11, api.OK, 4)}, 0, 1, 2, 3)
	wantSearch(t, []api.Past{created(), held, open(3, release, 9), past(2, read, 10, 11, api.OK, 1)}, 0, 1, 3)
	wantRefused(t, []api.Past{created(), held, past(2, op(api.OpHold, 1, 1), 1, 9, api.OK, 16)}, api.ErrOrderly) // one number, two holds
	wantSearch(t, []api.Past{created(), held, past(2, op(api.OpHold, 1, 1), 1, 9, api.OK, 17)}, 0, 1, 2)
	for _, number := range []int{0, -1, math.MinInt} {
		wantRefused(t, []api.Past{created(), past(1, hold, 1, 9, api.OK, number)}, api.ErrOrderly)
	}
	wantSearch(t, []api.Past{created(), past(1, hold, 1, 9, api.OK, math.MaxInt)}, 0, 1)
	wantSearch(t, []api.Past{created(), past(1, hold, 0, 9, api.ErrNone, 0)}, 1, 0)
}

// One that was not has a number of its own, that no call can name, whichever calls there are.
func TestP1705OpenHolds(t *testing.T) {
	hold, read := op(api.OpHold, 1, 1), op(api.OpRead)
	wantSearch(t, []api.Past{created(), open(1, hold, 4), open(2, hold, 4), past(3, read, 9, 9, api.OK, 2)}, 0, 1, 2, 3)
	wantSearch(t, []api.Past{created(), past(1, hold, 4, 5, api.ErrTimeout, 0), past(3, read, 9, 9, api.OK, 3)}, 0, 1, 2)
	for number := 1; number < 60; number++ {
		// What reads 3 says that there is a hold; a commit of any number does not end it.
		h := []api.Past{created(), open(1, hold, 4), past(2, read, 9, 9, api.OK, 3), past(3, op(api.OpCommit, number), 10, 10, api.ErrHold, 0)}
		wantSearch(t, h, 0, 1, 2, 3)
		h[3] = open(3, op(api.OpRelease, number), 0)
		wantSearch(t, append(h, past(4, read, 11, 11, api.OK, 3)), 0, 1, 2, 4)
		wantRefused(t, append(h, past(4, read, 11, 11, api.OK, 4)), api.ErrOrderly)
		// Nor does it take the number of another hold.
		h[3] = past(3, hold, 10, 10, api.OK, number)
		wantSearch(t, h, 0, 1, 2, 3)
		wantSearch(t, append(h, past(4, op(api.OpRelease, number), 12, 12, api.OK, 1)), 0, 1, 2, 3, 4)
	}
}

// Many open holds, and calls that name the first numbers of all.
func TestP1705ManyOpenHolds(t *testing.T) {
	h := []api.Past{past(0, op(api.OpCreate, 20, 20), 0, 0, api.OK, 0)}
	var order []int
	for i := 1; i <= 5; i++ {
		h = append(h, open(i, op(api.OpHold, 1, 1), 0), past(10+i, op(api.OpHold, 1, 1), 0, 99, api.OK, i))
	}
	h = append(h, past(30, op(api.OpRead), 100, 100, api.OK, 10))
	for i := range h {
		order = append(order, i)
	}
	wantSearch(t, h, order...)
	h[11].Value = 9
	wantRefused(t, h, api.ErrOrderly)
}

// Each counter by itself, and all in one order.
func TestP1705Names(t *testing.T) {
	var h []api.Past
	for i, name := range []string{"a", "b", "c", "d", "e", "f"} {
		h = append(h, past(i, opOf(name, api.OpRead), 0, 9, api.OK, i), past(10+i, opOf(name, api.OpCreate, 9, i), 0, 9, api.OK, 0))
	}
	wantSearch(t, h, 1, 0, 3, 2, 5, 4, 7, 6, 9, 8, 11, 10)
	h[10].Value = 0
	wantRefused(t, h, api.ErrOrderly)
	// Two orders of the same calls come to different values of the counter that is named last.
	h = []api.Past{
		created(), past(1, opOf("j", api.OpCreate, 9, 0), 0, 3, api.OK, 0), past(2, opOf("j", api.OpReset, 1), 4, 9, api.OK, 1),
		past(3, opOf("j", api.OpReset, 2), 4, 9, api.OK, 2), past(4, opOf("j", api.OpRead), 10, 10, api.OK, 1),
	}
	wantSearch(t, h, 0, 1, 3, 2, 4)
}

// Where all has been tried, the search ends, and soon: what came to the same in another order is not tried again.
func TestP1705Ends(t *testing.T) {
	h := []api.Past{past(0, op(api.OpCreate, api.MaxCap, 0), 0, 0, api.OK, 0)}
	for i := 1; i < 9; i++ {
		h = append(h, open(i, op(api.OpInc, 1<<i), 0))
	}
	h = append(h, open(9, op(api.OpReset, 1<<20), 0), open(10, op(api.OpReset, 1<<21), 0), past(11, op(api.OpRead), 0, 9, api.OK, 1))
	wantRefused(t, h, api.ErrOrderly)
	h[11].Value = 1<<20 + 1<<8
	wantSearch(t, h, 0, 1, 2, 3, 4, 5, 6, 7, 9, 8, 11)
	h[11].Value = 1<<21 + 1<<3
	wantSearch(t, h, 0, 1, 2, 4, 5, 6, 7, 8, 9, 10, 3, 11)
	for i := range h[1:11] { // all of them must have worked, and nothing tells them apart but their places
		h[1+i] = past(1+i, op(api.OpInc, 1), 0, 9, api.OK, 0)
	}
	h[11].Value = 11
	wantRefused(t, h, api.ErrOrderly)
}

// Two orders of the same calls come to different caps, at the same value: the cap tells them apart.
func TestP1705Caps(t *testing.T) {
	h := []api.Past{
		created(), past(1, op(api.OpRecap, 20), 4, 9, api.OK, 20), past(2, op(api.OpRecap, 5), 4, 9, api.OK, 5), past(3, op(api.OpInc, 15), 10, 10, api.OK, 0),
	}
	wantSearch(t, h, 0, 2, 1, 3)
	h[3] = past(3, op(api.OpReset, 6), 10, 10, api.ErrCap, 0)
	wantSearch(t, h, 0, 1, 2, 3)
}
