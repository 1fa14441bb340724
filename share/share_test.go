package share_test

import (
	"math"
	"testing"

	"sluice/api"
)

func TestP801Examples(t *testing.T) {
	wantDeal(t, 10, []int{1, 1, 1}, 4, 3, 3)
	wantDeal(t, 10, []int{0, 0, 0, 0}, 3, 3, 2, 2)
	wantDeal(t, 10, []int{3, 1, 0}, 8, 2, 0)
	wantDeal(t, 7, []int{2, 3, 2}, 2, 3, 2)
	wantDeal(t, 0, []int{5}, 0)
	wantDeal(t, 5, []int{0}, 5)
	wantDeal(t, maxCap, []int{maxWeight, 1}, 1099510579201, 1048575)
	wantNoDeal(t, -1, 1)
	wantNoDeal(t, 5)
	wantNoDeal(t, 5, -1, 2)
	wantNoDeal(t, 5, 1048577)
}

func TestP801Total(t *testing.T) {
	wantDeal(t, 0, []int{1, 2}, 0, 0)
	wantDeal(t, maxCap, []int{7}, maxCap)
	wantNoDeal(t, maxCap+1, 7)
	wantNoDeal(t, math.MaxInt, 7)
	wantNoDeal(t, math.MinInt, 7)
}

func TestP801Weights(t *testing.T) {
	wantDeal(t, 16, times(16, 3), times(16, 1)...)
	wantNoDeal(t, 17, times(17, 3)...)
	wantNoDeal(t, 0, times(17, 0)...)
	wantDeal(t, 16, times(16, maxWeight), times(16, 1)...)
	wantNoDeal(t, 0)
	wantNoDeal(t, 0, 0, maxWeight+1)
	wantNoDeal(t, 0, 0, 0, -1)
	wantNoDeal(t, 9, math.MaxInt, 1)
	wantNoDeal(t, 9, 1, math.MinInt)
	wantNoDeal(t, -1, -1)
}

func TestP801AllZero(t *testing.T) {
	wantDeal(t, 7, []int{0, 0}, 4, 3)
	wantDeal(t, 0, []int{0, 0}, 0, 0)
	wantDeal(t, 2, []int{0, 0, 0}, 1, 1, 0)
	wantDeal(t, maxCap, []int{0, 0, 0}, 366503875926, 366503875925, 366503875925)
	wantDeal(t, 7, []int{0, 1}, 0, 7)
}

// What the rounding has left goes to the greatest rests, of equal ones to the lower place.
func TestP801Rests(t *testing.T) {
	wantDeal(t, 5, []int{1, 2, 4}, 1, 1, 3)       // rests 5, 3, 6 of 7: two are left
	wantDeal(t, 1, []int{1, 2, 4}, 0, 0, 1)       // the last one
	wantDeal(t, 1, []int{2, 4, 4, 2}, 0, 1, 0, 0) // of two greatest the first
	wantDeal(t, 2, []int{1, 1, 3}, 1, 0, 1)       // rests 2, 2, 1 of 5: one is left
	wantDeal(t, 3, []int{4, 3, 3}, 1, 1, 1)       // rests 2, 9, 9 of 10
	wantDeal(t, 11, []int{10, 5, 1, 1, 1}, 6, 3, 1, 1, 0)
	wantDeal(t, 15, times(16, 1), 1, 1, 1, 1, 1, 1, 1, 1, 1, 1, 1, 1, 1, 1, 1, 0)
	wantDeal(t, 1, times(16, 9), append([]int{1}, times(15, 0)...)...)
}

// Twelve places with equal rests and more: a sort that is not told what to do with equal ones would mix them up.
func TestP801EqualRests(t *testing.T) {
	weights := []int{1, 1, 2, 1, 1, 1, 1, 1, 1, 1, 1, 1, 1, 1, 1, 0}
	wantDeal(t, 8, weights, 1, 1, 1, 1, 1, 1, 1, 1, 0, 0, 0, 0, 0, 0, 0, 0)
}

func TestP801Greatest(t *testing.T) {
	wantDeal(t, maxCap, times(16, maxWeight), times(16, maxCap/16)...)
	wantDeal(t, maxCap, []int{maxWeight, maxWeight, maxWeight}, 366503875926, 366503875925, 366503875925)
	wantDeal(t, maxCap, []int{maxWeight, 0}, maxCap, 0)
}

func TestP802Consequences(t *testing.T) {
	d := dice(82)
	for range 20000 {
		total, weights := d.deal()
		checkParts(t, total, weights)
	}
}

func TestP803Examples(t *testing.T) {
	wantSplit(t, api.Rights{Down: 5, Up: 6}, []int{1, 1}, api.Rights{Down: 3, Up: 3}, api.Rights{Down: 2, Up: 3})
}

func TestP803Split(t *testing.T) {
	wantSplit(t, api.Rights{}, []int{1, 0}, api.Rights{}, api.Rights{})
	wantSplit(t, api.Rights{Down: 4}, []int{0, 0}, api.Rights{Down: 2}, api.Rights{Down: 2})
	wantSplit(t, api.Rights{Up: 4}, []int{3, 1}, api.Rights{Up: 3}, api.Rights{Up: 1})
	wantSplit(t, api.Rights{Down: maxCap}, []int{9}, api.Rights{Down: maxCap})
	wantSplit(t, api.Rights{Up: maxCap}, []int{9}, api.Rights{Up: maxCap})
	// each kind has its own ones that are left: the first part gets both
	wantSplit(t, api.Rights{Down: 1, Up: 1}, []int{1, 1}, api.Rights{Down: 1, Up: 1}, api.Rights{})
}

func TestP803Refused(t *testing.T) {
	wantNoSplit(t, api.Rights{Down: -1}, 1)
	wantNoSplit(t, api.Rights{Up: -1}, 1)
	wantNoSplit(t, api.Rights{Down: -1, Up: 2}, 1)
	wantNoSplit(t, api.Rights{Down: 2, Up: -1}, 1)
	wantNoSplit(t, api.Rights{Down: maxCap, Up: 1}, 1)
	wantNoSplit(t, api.Rights{Down: 1, Up: maxCap}, 1)
	wantNoSplit(t, api.Rights{Down: math.MaxInt, Up: math.MaxInt}, 1)
	wantNoSplit(t, api.Rights{Down: math.MaxInt, Up: 1}, 1)
	wantNoSplit(t, api.Rights{Down: math.MinInt, Up: math.MinInt}, 1)
	wantNoSplit(t, api.Rights{Down: math.MinInt, Up: math.MaxInt}, 1)
	wantNoSplit(t, api.Rights{})
	wantNoSplit(t, api.Rights{Down: 1}, 1, -1)
	wantNoSplit(t, api.Rights{Down: 1}, maxWeight+1)
	wantNoSplit(t, api.Rights{Down: 1}, times(17, 1)...)
}

func TestP804Examples(t *testing.T) {
	wantAsk(t, 1, []int{5, 9, 5, 0}, 2)
	wantAsk(t, 2, []int{5, 9, 5, 0}, 1)
	wantAsk(t, -1, []int{5, 9, 9}, 1)
	wantAsk(t, 0, []int{7, 0}, -1)
}

// Of equal ones the first behind me counts, though those ahead of me stand first in the list.
func TestP804Round(t *testing.T) {
	equal := []int{4, 4, 4, 4}
	for me, place := range []int{1, 2, 3, 0} {
		wantAsk(t, me, equal, place)
	}
	wantAsk(t, 2, []int{4, 4, 4, 1}, 0)
	wantAsk(t, 1, []int{4, 9, 1, 4}, 3)
	wantAsk(t, 3, []int{5, 1, 5, 9}, 0)
	wantAsk(t, 0, []int{1, 2, 3, 3}, 2)
	wantAsk(t, 1, []int{6, 2, 3, 3}, 0)
}

func TestP804NoPlace(t *testing.T) {
	for _, me := range []int{-1, -3, 3, 4, math.MinInt, math.MaxInt, math.MaxInt - 1} {
		wantAsk(t, me, []int{5, 9, 9}, 1)
		wantAsk(t, me, []int{7, 7, 7}, 0)
	}
}

func TestP804None(t *testing.T) {
	wantAsk(t, 0, nil, -1)
	wantAsk(t, -1, []int{}, -1)
	wantAsk(t, 0, []int{7}, -1)
	wantAsk(t, 1, []int{7}, 0)
	wantAsk(t, 1, []int{0, 3, -2}, -1)
	wantAsk(t, 5, []int{0, 0}, -1)
	wantAsk(t, 5, []int{math.MinInt, -1}, -1)
	wantAsk(t, 0, []int{math.MinInt, math.MaxInt, math.MaxInt}, 1)
	wantAsk(t, 0, []int{9, -1, 1}, 2)
}

func TestP804LongList(t *testing.T) {
	known := times(1000, 3)
	known[999], known[3] = 8, 8
	wantAsk(t, 500, known, 999)
	wantAsk(t, 999, known, 3)
	wantAsk(t, 3, known, 999)
}

func TestP805Examples(t *testing.T) {
	wantGive(t, 5, 9, 3)
	wantGive(t, 5, 2, 2)
	wantGive(t, 1, 1, 1)
	wantGive(t, 0, 3, 0)
}

func TestP805Give(t *testing.T) {
	for have := -3; have <= 12; have++ {
		for want := -3; want <= 12; want++ {
			given := 0
			for 2*given < have && given < want {
				given++
			}
			wantGive(t, have, want, given)
		}
	}
	wantGive(t, math.MaxInt, math.MaxInt, 1<<62)
	wantGive(t, math.MaxInt-1, math.MaxInt, 1<<62-1)
	wantGive(t, math.MaxInt, 3, 3)
	wantGive(t, 3, math.MaxInt, 2)
	wantGive(t, math.MinInt, math.MaxInt, 0)
	wantGive(t, math.MaxInt, math.MinInt, 0)
}
