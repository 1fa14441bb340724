package check_test

import (
	"slices"
	"testing"

	"sluice/api"
	"sluice/check"
)

// behind is what stands in the spare room of a list.
func behind() (api.Past, api.Effect) {
	return past(77, op(api.OpReset, 7), 7, 7, api.OK, 7), effect(77, 77, op(api.OpReset, 7), api.OK, 7)
}

// What is handed in is as it was, up to the end of its spare room.
func TestP1707Unchanged(t *testing.T) {
	p, e := behind()
	d := dice(1707)
	for range 300 {
		src := source(d.bytes(100))
		at := played(&src, 1+src.pick(6))
		at.spoil()
		history := append(slices.Clone(at.history), p, p, p)
		effects := append(slices.Clone(at.effects), e, e, e)
		h, l := slices.Clone(history), slices.Clone(effects)
		check.Verify(history[:len(at.history)], effects[:len(at.effects)])
		check.Search(history[:len(at.history)])
		if !slices.Equal(history, h) || !slices.Equal(effects, l) {
			t.Fatalf("%+v, %+v have become %+v, %+v", h, l, history, effects)
		}
	}
}

// What stands in the spare room is not looked at.
func TestP1707SpareRoom(t *testing.T) {
	history := []api.Past{created(), past(1, op(api.OpRead), 4, 4, api.OK, 9), created()}
	effects := []api.Effect{made(), made(), made()}
	wantVerify(t, history[:1], effects[:1], 0, api.OK)
	wantSearch(t, history[:1], 0)
}

// What is answered, up to the end of its spare room, is the caller's; a call hangs on its arguments alone.
func TestP1707NewMemory(t *testing.T) {
	history := []api.Past{created(), past(1, op(api.OpRead), 2, 5, api.OK, 4), past(2, op(api.OpRead), 0, 9, api.ErrNone, 0)}
	one, _ := check.Search(history)
	two, _ := check.Search(history)
	all := one[:cap(one)]
	for i := range all {
		all[i] = -1
	}
	if !slices.Equal(two, []int{2, 0, 1}) {
		t.Errorf("a change of one answer reaches another: %v", two)
	}
	wantSearch(t, history, 2, 0, 1)
	history[1].Value = 5
	wantRefused(t, history, api.ErrOrderly)
	if !slices.Equal(two, []int{2, 0, 1}) {
		t.Errorf("a later call reaches an answer: %v", two)
	}
	history[1].Value = 4
	wantSearch(t, history, 2, 0, 1)
}
