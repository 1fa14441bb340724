package share_test

import (
	"slices"
	"testing"

	"sluice/api"
	"sluice/share"
)

// within tells a list with known numbers ahead of it and in its spare room, and a check that all stand as they did.
func within(t *testing.T, list ...int) ([]int, func()) {
	room := append(append([]int{-5, -6}, list...), -7, -8, -9)
	before := slices.Clone(room)
	return room[2 : 2+len(list)], func() {
		t.Helper()
		if !slices.Equal(room, before) {
			t.Errorf("what was handed in was changed: %v, want %v", room, before)
		}
	}
}

func TestP806ArgumentsStand(t *testing.T) {
	for _, list := range [][]int{{3, 1, 2}, {0, 0, 0}, {9}, {}, {-1, 2}, {5, 5, 5, 5, 1}, times(17, 1)} {
		handed, check := within(t, list...)
		share.Deal(10, handed)
		check()
		share.Deal(-1, handed)
		check()
		share.Split(api.Rights{Down: 7, Up: 8}, handed)
		check()
		share.Ask(1, handed)
		check()
	}
}

// What is answered, up to the end of its spare room, is the caller's.
func TestP806NewMemory(t *testing.T) {
	weights := []int{1, 2, 0}
	first, _ := share.Deal(10, weights)
	second, _ := share.Deal(10, weights)
	spoil(first, -77)
	if !slices.Equal(weights, []int{1, 2, 0}) || !slices.Equal(second, []int{3, 7, 0}) {
		t.Errorf("a change of an answer reaches further: %v, %v", weights, second)
	}
	wantDeal(t, 10, weights, 3, 7, 0)
	r := api.Rights{Down: 10, Up: 10}
	parts, _ := share.Split(r, weights)
	others, _ := share.Split(r, weights)
	spoil(parts, api.Rights{Down: -77, Up: -77})
	if !slices.Equal(others, []api.Rights{{Down: 3, Up: 3}, {Down: 7, Up: 7}, {}}) {
		t.Errorf("a change of one answer reaches another: %v", others)
	}
	zero := []int{0, 0}
	same, _ := share.Deal(2, zero)
	spoil(same, -77)
	if !slices.Equal(zero, []int{0, 0}) {
		t.Errorf("a change of an answer reaches the weights: %v", zero)
	}
}

// A list that was handed in is not kept: what is done with it later is not to be seen.
func TestP806NotKept(t *testing.T) {
	weights := []int{1, 2, 0}
	parts, _ := share.Deal(10, weights)
	spoil(weights, 5)
	if !slices.Equal(parts, []int{3, 7, 0}) {
		t.Errorf("a change of the weights reaches the answer: %v", parts)
	}
	wantDeal(t, 10, []int{1, 2, 0}, 3, 7, 0)
}

func spoil[T any](list []T, with T) {
	list = list[:cap(list)]
	for i := range list {
		list[i] = with
	}
}
