package check

import (
	"slices"

	"sluice/api"
	"sluice/atom"
)

// Search seeks an order of a history: the places of the calls that have had an effect, one behind the other; of several
// orders the least one. api.ErrArg, if the history is not right; api.ErrDeep beyond api.MaxSearch calls; api.ErrOrderly,
// if there is none.
func Search(history []api.Past) ([]int, api.Errno) {
	_, right := placesOf(history)
	switch {
	case !right:
		return nil, api.ErrArg
	case len(history) > api.MaxSearch:
		return nil, api.ErrDeep
	}
	s := newSeeker(history)
	if !s.seek(atom.New(), 0) {
		return nil, api.ErrOrderly
	}
	return s.order, api.OK
}

// set is a set of places, a bit each.
type set int

func (s set) has(place int) bool { return s&(1<<place) != 0 }

func (s set) with(place int) set { return s | 1<<place }

func (s set) hasAll(other set) bool { return other&^s == 0 }

// state is all that the rest of an order hangs on: first the places that stand there, then the cap and the value of each
// counter. Which holds there are, and which numbers were used, hangs on these places alone: a call that stands there with
// OK has made, or ended, its hold, and no two of them the same one.
type state [1 + 2*api.MaxSearch]int

// seeker seeks an order of a right history of up to api.MaxSearch calls.
type seeker struct {
	history []api.Past
	names   []string
	must    set                // the calls that an order must have
	can     set                // all that it can have
	numbers [api.MaxSearch]int // by places: the number that an OpHold gets
	order   []int              // as far as it is tried now
	vain    map[state]struct{} // where all ways on have been tried in vain
}

func newSeeker(history []api.Past) *seeker {
	s := &seeker{history: history, vain: map[state]struct{}{}}
	number := 0
	for i, p := range history {
		if !slices.Contains(s.names, p.Op.Name) {
			s.names = append(s.names, p.Op.Name)
		}
		switch {
		case partOf(p) == must:
			s.must = s.must.with(i)
			s.can = s.can.with(i)
			s.numbers[i] = p.Value
		case partOf(p) == may && !isAnswered(p):
			s.can = s.can.with(i)
			number = s.unnamed(number + 1)
			s.numbers[i] = number
		}
	}
	return s
}

// unnamed tells the first number, from a given one on, that no call of the history can mean by a hold.
func (s *seeker) unnamed(from int) int {
	for slices.ContainsFunc(s.history, func(p api.Past) bool { return p.Op.A == from || p.Value == from }) {
		from++
	}
	return from
}

// seek goes on with an order, of which the map has done the calls that stand there. It tries them by rising places: so
// the first order that it finds is the least. It ends with the last call that an order must have: none is the beginning
// of another one.
func (s *seeker) seek(m *atom.Map, stand set) bool {
	if stand.hasAll(s.must) {
		return true
	}
	here := s.state(m, stand)
	if _, tried := s.vain[here]; tried {
		return false
	}
calls:
	for i, p := range s.history {
		if stand.has(i) || !s.can.has(i) {
			continue
		}
		for j, other := range s.history {
			if s.must.has(j) && !stand.has(j) && other.To < p.From {
				continue calls // it was answered ahead of p's coming
			}
		}
		next := m.Copy()
		if !s.does(next, i) {
			continue
		}
		s.order = append(s.order, i)
		if s.seek(next, stand.with(i)) {
			return true
		}
		s.order = s.order[:len(s.order)-1]
	}
	s.vain[here] = struct{}{}
	return false
}

// does lets a map do a call, and tells whether the answer is one that it can have had.
func (s *seeker) does(m *atom.Map, place int) bool {
	p := s.history[place]
	value, e := m.Do(p.Op, s.numbers[place])
	if s.must.has(place) {
		return e == p.Err && value == p.Value
	}
	return e == api.OK
}

func (s *seeker) state(m *atom.Map, stand set) state {
	here := state{int(stand)}
	for i, name := range s.names {
		value, _, limit, _ := m.Peek(name)
		here[1+2*i], here[2+2*i] = limit, value
	}
	return here
}
