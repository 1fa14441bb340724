package link_test

import (
	"encoding/binary"
	"testing"

	"sluice/api"
	"sluice/link"
)

// side is one of two ends, with what was handed in there, what was handed up there, and all that it ever told by Out.
type side struct {
	end  *link.Link
	in   [][]byte
	up   [][]byte
	told []api.Segment
}

func (a *side) send(t *testing.T, d *dice) {
	// Each is another one, so that a wrong order shows; some have no bytes.
	data := binary.AppendUvarint(nil, uint64(len(a.in)))
	if d.roll(8) == 0 {
		data = nil
	}
	room := a.end.Room()
	e := a.end.Send(data)
	if (e == api.OK) != (room > 0) {
		t.Fatalf("Room %d, and Send: %d", room, e)
	}
	if e == api.OK {
		a.in = append(a.in, data)
	}
}

func (a *side) out() []api.Segment {
	list := a.end.Out()
	a.told = append(a.told, list...)
	return list
}

func (a *side) take(t *testing.T, s api.Segment) {
	t.Helper()
	up, e := a.end.Take(s)
	if e != api.OK {
		t.Fatalf("what the other end has told is refused: %s: %d", told([]api.Segment{s}), e)
	}
	a.up = append(a.up, up...)
}

// acked tells how many an end counts as acknowledged.
func (a *side) acked(window int) int {
	return len(a.in) - (window - a.end.Room())
}

func holds(t *testing.T, from, to *side, window int) {
	t.Helper()
	n := len(to.up)
	if n > len(from.in) || !sameLists(to.up, from.in[:n]) {
		t.Fatalf("handed up: %q, handed in: %q", to.up, from.in)
	}
	if to.end.Next() != n+1 {
		t.Fatalf("%d were handed up, and Next is %d", n, to.end.Next())
	}
	if acked := from.acked(window); acked > n {
		t.Fatalf("%d count as acknowledged, %d were handed up", acked, n)
	}
}

// pair: two ends that may differ in their windows and resends.
type pair struct {
	sides  [2]*side
	window [2]int
	resend [2]int
}

func madePair(t *testing.T, d *dice) *pair {
	p := &pair{window: [2]int{1 + d.roll(5), 1 + d.roll(5)}, resend: [2]int{1 + d.roll(6), 1 + d.roll(6)}}
	if d.roll(2) == 0 {
		p.window[1] = p.window[0]
	}
	for i := range p.sides {
		p.sides[i] = &side{end: madeAt(t, i, 1-i, p.window[i], p.resend[i])}
	}
	return p
}

// step does one thing at one end: of all that the other one has ever told, any comes.
func (p *pair) step(t *testing.T, d *dice) {
	i := d.roll(2)
	a, b := p.sides[i], p.sides[1-i]
	switch d.roll(6) {
	case 0:
		a.send(t, d)
	case 1:
		a.out()
	case 2:
		a.end.Tick()
	default:
		// Mostly one of the last, for else all are old soon.
		n := len(b.told)
		if n == 0 {
			return
		}
		at := d.roll(n)
		if d.roll(4) > 0 {
			at = n - 1 - d.roll(min(n, 12))
		}
		a.take(t, b.told[at])
	}
}

func (p *pair) holds(t *testing.T) {
	t.Helper()
	for i := range p.sides {
		holds(t, p.sides[i], p.sides[1-i], p.window[i])
	}
}

func TestP309FirstPart(t *testing.T) {
	most := 0
	for seed := range 150 {
		d := dice(seed)
		p := madePair(t, &d)
		for range 1500 {
			p.step(t, &d)
			p.holds(t)
		}
		most = max(most, len(p.sides[0].up))
	}
	if most < 40 {
		t.Errorf("the plays hand up %d at most: they try too little", most)
	}
}

// carry: all that an end tells is taken by the other one, till neither tells anything.
func (p *pair) carry(t *testing.T) {
	for rounds := 0; ; rounds++ {
		moved := false
		for i, a := range p.sides {
			for _, s := range a.out() {
				p.sides[1-i].take(t, s)
				moved = true
			}
		}
		if !moved {
			return
		}
		if rounds > 10 {
			t.Fatal("the ends tell on and on")
		}
	}
}

func TestP310Rest(t *testing.T) {
	for seed := range 300 {
		d := dice(seed)
		p := madePair(t, &d)
		for range d.roll(400) {
			p.step(t, &d)
		}
		for range max(p.resend[0], p.resend[1]) {
			for _, a := range p.sides {
				a.end.Tick()
			}
			p.carry(t)
		}
		for i, a := range p.sides {
			b := p.sides[1-i]
			if !sameLists(b.up, a.in) {
				t.Fatalf("handed up: %q, handed in: %q", b.up, a.in)
			}
			wantUnder(t, a.end)
			wantOut(t, a.end)
			wantRoom(t, a.end, p.window[i])
		}
	}
}

// All is lost but the last sending: it comes just then, and not a tick earlier.
func TestP310AllLost(t *testing.T) {
	for _, resend := range []int{1, 2, 3, 50} {
		p := &pair{window: [2]int{16, 16}, resend: [2]int{resend, 1}}
		for i := range p.sides {
			p.sides[i] = &side{end: madeAt(t, i, 1-i, 16, p.resend[i])}
		}
		d := dice(resend)
		for range 16 {
			p.sides[0].send(t, &d)
		}
		p.sides[0].out()
		for n := 1; n <= resend; n++ {
			for _, a := range p.sides {
				a.end.Tick()
			}
			p.carry(t)
			if got := len(p.sides[1].up); (got == 16) != (n == resend) {
				t.Fatalf("resend %d: behind %d ticks %d were handed up", resend, n, got)
			}
		}
		wantUnder(t, p.sides[0].end)
	}
}
