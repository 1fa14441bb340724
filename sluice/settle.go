package sluice

import (
	"slices"

	"sluice/api"
)

const (
	maxRounds     = 20000
	maxDeliveries = 20000000 // in a row
)

// settle brings a cluster to rest, and tells how many letters were delivered at first, and then behind each tick; the
// replicas tick in turn. It keeps no steps: there may be millions of them, and nobody asks for them where there is no
// rest.
func settle(on player, replicas int) ([]int, error) {
	n, err := empty(on)
	if err != nil {
		return nil, err
	}
	counts := []int{n}
	for range maxRounds {
		if isAtRest(on, replicas) {
			return counts, nil
		}
		for me := range replicas {
			on(tick(me))
			n, err := empty(on)
			if err != nil {
				return nil, err
			}
			counts = append(counts, n)
		}
	}
	return nil, api.ErrLong
}

// empty delivers as long as there is a letter, and tells how many there were.
func empty(on player) (int, error) {
	// the last turn finds no letter, or one too many
	for n := range maxDeliveries + 1 {
		if on(deliver()).Err == api.ErrIndex {
			return n, nil
		}
	}
	return 0, api.ErrLong
}

// spell tells the steps that were taken, by how many deliveries there were.
func spell(counts []int, replicas int) []api.Step {
	var steps []api.Step
	for i, n := range counts {
		if i > 0 {
			steps = append(steps, tick((i-1)%replicas))
		}
		steps = append(steps, slices.Repeat([]api.Step{deliver()}, n)...)
	}
	return steps
}

func tick(me int) api.Step { return api.Step{Kind: api.StepTick, Replica: me} }

func deliver() api.Step { return api.Step{Kind: api.StepDeliver} }

// isAtRest tells whether nothing is left to be done. It is asked where the bag is empty.
func isAtRest(on player, replicas int) bool {
	var sights []api.Sight
	for me := range replicas {
		s := on.see(me)
		if !isQuiet(s) {
			return false
		}
		sights = append(sights, s)
	}
	return isAgreed(sights)
}

// isQuiet tells whether a replica waits for nothing.
func isQuiet(s api.Sight) bool {
	return len(s.Calls) == 0 &&
		!slices.ContainsFunc(s.Out, func(list []api.Msg) bool { return len(list) > 0 }) &&
		!slices.ContainsFunc(s.Under, func(list []api.Segment) bool { return len(list) > 0 }) &&
		!slices.ContainsFunc(s.Stocks, func(k api.Stock) bool { return len(k.Live) > 0 })
}

// isAgreed tells whether all replicas know the same names, and the value of each. The value is in the rights that may be
// spent alone: where no epoch is live, none are gathered.
func isAgreed(sights []api.Sight) bool {
	first := sights[0].Stocks
	for _, s := range sights {
		if !slices.EqualFunc(s.Stocks, first, isSameName) {
			return false
		}
	}
	for i := range first {
		value := 0
		for _, s := range sights {
			value += s.Stocks[i].Rights.Down
		}
		if slices.ContainsFunc(sights, func(s api.Sight) bool { return s.Stocks[i].About != value }) {
			return false
		}
	}
	return true
}

func isSameName(a, b api.Stock) bool { return a.Name == b.Name }
