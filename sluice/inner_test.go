package sluice

import (
	"testing"

	"sluice/api"
)

// puppet stands for a cluster: letters that are there at first and that come by each tick, and after how many ticks
// it is at rest. So the bounds are reached that real ones take minutes for.
type puppet struct {
	replicas       int
	letters, comes int
	calm           int // ticks
	ticks, looks   int
}

func (p *puppet) on(s api.Step) api.Answer {
	switch s.Kind {
	case api.StepTick:
		p.ticks++
		p.letters += p.comes
	case api.StepDeliver:
		if p.letters == 0 {
			return api.Answer{Err: api.ErrIndex}
		}
		p.letters--
		return api.Answer{Err: api.ErrFrame} // a letter that is refused is delivered too
	case api.StepSee:
		p.looks++
		if p.ticks < p.calm {
			return api.Answer{Sight: api.Sight{Calls: []api.Call{{Id: 1}}}}
		}
	}
	return api.Answer{}
}

func (p *puppet) wantSettle(t *testing.T, what string, rounds int) {
	t.Helper()
	first := p.letters
	counts, err := settle(p.on, p.replicas)
	if err != nil || len(counts) != 1+rounds*p.replicas || counts[0] != first || p.ticks != rounds*p.replicas {
		t.Errorf("%s: %d counts, %d ticks, %v", what, len(counts), p.ticks, err)
		return
	}
	for i, n := range counts[1:] {
		if n != p.comes {
			t.Errorf("%s: %d letters behind the tick %d", what, n, i)
		}
	}
}

func (p *puppet) wantLong(t *testing.T, what string, ticks int) {
	t.Helper()
	counts, err := settle(p.on, p.replicas)
	if number(err) != api.ErrLong || counts != nil || p.ticks != ticks {
		t.Errorf("%s: %d counts, %d ticks, %v", what, len(counts), p.ticks, err)
	}
}

func TestP1902Deliveries(t *testing.T) {
	const most = 20000000
	(&puppet{replicas: 2, letters: most}).wantSettle(t, "as many as may be", 0)
	(&puppet{replicas: 2, letters: most + 1}).wantLong(t, "one too many", 0)
	(&puppet{replicas: 2, letters: most, comes: most, calm: 2}).wantSettle(t, "as many in each row", 1)
	(&puppet{replicas: 3, comes: most + 1, calm: 3}).wantLong(t, "one too many in a later row", 1)
}

func TestP1902MostRounds(t *testing.T) {
	const most = 20000
	for _, replicas := range []int{2, 5} {
		p := &puppet{replicas: replicas, letters: 3, comes: 2, calm: replicas * (most - 1)}
		p.wantSettle(t, "at rest ahead of the last round", most-1)
		p = &puppet{replicas: replicas, letters: 3, comes: 2, calm: replicas*(most-1) + 1}
		p.wantLong(t, "at rest in the last round", replicas*most)
		p = &puppet{replicas: replicas, calm: 1 << 40}
		p.wantLong(t, "never at rest", replicas*most)
		if p.looks != most {
			t.Errorf("%d looks for rest", p.looks)
		}
	}
}

// still is what two replicas look like that are at rest, with 3 and 4 down rights of a, and none of b.
func still() []api.Sight {
	var sights []api.Sight
	for me := range 2 {
		sights = append(sights, api.Sight{
			Now: 5 + me, Drops: me, Out: make([][]api.Msg, 2), Under: make([][]api.Segment, 2), Next: []int{7, 8},
			Stocks: []api.Stock{
				{Name: "a", Cap: 20 + me, Recaps: me, Rights: api.Rights{Down: 3 + me, Up: 1}, Held: 2, About: 7},
				{Name: "b", Cap: 9, Rights: api.Rights{Up: 9}},
			},
		})
	}
	return sights
}

// Each thing alone that is not at rest.
func TestP1902Rest(t *testing.T) {
	rests := func(sights []api.Sight) bool {
		return isAtRest(func(s api.Step) api.Answer { return api.Answer{Sight: sights[s.Replica]} }, len(sights))
	}
	if !rests(still()) || !rests(make([]api.Sight, 16)) {
		t.Errorf("no rest")
	}
	for what, disturb := range map[string]func(s *api.Sight){
		"an open call":              func(s *api.Sight) { s.Calls = []api.Call{{Session: 1, Id: 1}} },
		"a message":                 func(s *api.Sight) { s.Out[1] = []api.Msg{{Kind: api.MsgWant}} },
		"a segment":                 func(s *api.Sight) { s.Under[0] = []api.Segment{{Seq: 1}} },
		"a live epoch":              func(s *api.Sight) { s.Stocks[1].Live = []api.Epoch{{Round: 1}} },
		"a name that one knows":     func(s *api.Sight) { s.Stocks = append(s.Stocks, api.Stock{Name: "c"}) },
		"a name that one lacks":     func(s *api.Sight) { s.Stocks = s.Stocks[:1] },
		"no names here":             func(s *api.Sight) { s.Stocks = nil },
		"other names":               func(s *api.Sight) { s.Stocks[1].Name = "c" },
		"too little is known":       func(s *api.Sight) { s.Stocks[0].About = 6 },
		"too much is known":         func(s *api.Sight) { s.Stocks[1].About = 1 },
		"a right of another's view": func(s *api.Sight) { s.Stocks[0].Rights.Down++ },
	} {
		for me := range 2 {
			sights := still()
			disturb(&sights[me])
			if rests(sights) {
				t.Errorf("%s at %d is no rest", what, me)
			}
		}
	}
}

// An error tells its number, whatever is wrapped around it.
func TestP1901Numbers(t *testing.T) {
	for _, e := range []api.Errno{api.ErrArg, api.ErrLong, api.ErrScript, 4711, -3} {
		for _, err := range []error{e, misread{e, 3, 4}, misread{misread{e, 1, 2}, 3, 4}, fault(e)} {
			if n := number(err); n != e || err.Error() != e.Error() {
				t.Errorf("%v: %d", err, n)
			}
		}
	}
	if fault(api.OK) != nil || number(nil) != api.OK {
		t.Errorf("OK is an error")
	}
	if text := tell(misread{misread{api.ErrArg, 1, 2}, -3, 4}); text != "error 1 line -3 column 4\n" {
		t.Errorf("%q", text)
	}
}
