package link_test

import (
	"bytes"
	"testing"

	"sluice/api"
	"sluice/link"
)

// model keeps all that was ever handed in and all that ever came, and works each answer out anew from there.
type model struct {
	me, peer, window, resend int

	handed    [][]byte // number i + 1
	gone      int
	acked     int
	came      map[int][]byte
	up        int
	age       int
	due, owed bool
}

func (m *model) room() int { return m.window - (len(m.handed) - m.acked) }

func (m *model) send(data []byte) api.Errno {
	switch {
	case len(data) > 4000:
		return api.ErrLong
	case m.room() == 0:
		return api.ErrFull
	}
	m.handed = append(m.handed, bytes.Clone(data))
	return api.OK
}

func (m *model) tick() {
	if m.gone == m.acked {
		return
	}
	if m.age++; m.age == m.resend {
		m.age, m.due = 0, true
	}
}

func (m *model) list(from, to int) []api.Segment {
	var list []api.Segment
	for i := from; i < to; i++ {
		list = append(list, api.Segment{From: m.me, To: m.peer, Seq: i + 1, Ack: m.up, Data: m.handed[i]})
	}
	return list
}

func (m *model) out() []api.Segment {
	var list []api.Segment
	if m.owed {
		list = append(list, api.Segment{From: m.me, To: m.peer, Ack: m.up})
	}
	first := m.gone
	if m.due {
		first = m.acked
	}
	list = append(list, m.list(first, len(m.handed))...)
	if m.gone == m.acked {
		m.age = 0
	}
	m.owed, m.due, m.gone = false, false, len(m.handed)
	return list
}

func (m *model) take(s api.Segment) ([][]byte, api.Errno) {
	right := s.From == m.peer && s.To == m.me && 0 <= s.Seq && s.Seq <= 1<<40 && 0 <= s.Ack && s.Ack <= m.gone
	if !right || s.Seq == 0 && len(s.Data) != 0 || len(s.Data) > 4000 {
		return nil, api.ErrLink
	}
	m.acked = max(m.acked, s.Ack)
	if s.Seq == 0 {
		return nil, api.OK
	}
	m.owed = true
	if _, here := m.came[s.Seq]; !here && s.Seq <= m.up+m.window {
		m.came[s.Seq] = bytes.Clone(s.Data)
	}
	var up [][]byte
	for data, here := m.came[m.up+1]; here; data, here = m.came[m.up+1] {
		up = append(up, data)
		m.up++
	}
	return up, api.OK
}

// source tells bytes one by one, and 0 behind their end.
type source []byte

func (s *source) next() int {
	if len(*s) == 0 {
		return 0
	}
	b := (*s)[0]
	*s = (*s)[1:]
	return int(b)
}

// segment tells one that is mostly near what the end has and awaits.
func (s *source) segment(m *model) api.Segment {
	g := api.Segment{From: m.peer, To: m.me, Seq: m.up + s.next()%(m.window+5) - 2, Ack: m.acked + s.next()%(m.window+3) - 1}
	if g.Seq > 0 {
		g.Data = bytes.Repeat([]byte{byte(s.next())}, s.next()%3)
	}
	switch s.next() {
	case 1:
		g.From = s.next()
	case 2:
		g.To = s.next()
	case 3:
		g.Seq = 1<<40 + s.next()%2
	case 4:
		g.Data = make([]byte, 4000+s.next()%2)
	}
	return g
}

// play plays what some bytes say at an end and at the model, and holds all that they tell against each other.
func play(t *testing.T, script []byte) {
	s := source(script)
	m := &model{me: s.next() % 16, window: 1 + s.next()%16, resend: 1 + s.next()%5, came: map[int][]byte{}}
	m.peer = (m.me + 1 + s.next()%15) % 16
	l := madeAt(t, m.me, m.peer, m.window, m.resend)
	for len(s) > 0 {
		switch s.next() % 5 {
		case 0:
			playSend(t, &s, l, m)
		case 1:
			playTake(t, &s, l, m)
		case 2:
			l.Tick()
			m.tick()
		case 3:
			if got, want := l.Out(), m.out(); !sameSegments(got, want) {
				t.Fatalf("Out tells %s, want %s", told(got), told(want))
			}
		case 4:
			// An acknowledgement of a part: without it a window is mostly full.
			playSegment(t, api.Segment{From: m.peer, To: m.me, Ack: m.acked + s.next()%(m.gone-m.acked+1)}, l, m)
		}
		holdAgainst(t, l, m)
	}
}

func playSend(t *testing.T, s *source, l *link.Link, m *model) {
	data := bytes.Repeat([]byte{byte(s.next())}, s.next()%4)
	if s.next() == 9 {
		data = make([]byte, 4000+s.next()%2)
	}
	if got, want := l.Send(data), m.send(data); got != want {
		t.Fatalf("Send of %d bytes: %d, want %d", len(data), got, want)
	}
}

func playTake(t *testing.T, s *source, l *link.Link, m *model) { playSegment(t, s.segment(m), l, m) }

func playSegment(t *testing.T, g api.Segment, l *link.Link, m *model) {
	got, e := l.Take(g)
	want, wantE := m.take(g)
	if e != wantE || !sameLists(got, want) {
		t.Fatalf("Take(%s) = %q, %d, want %q, %d", told([]api.Segment{g}), got, e, want, wantE)
	}
}

func holdAgainst(t *testing.T, l *link.Link, m *model) {
	if l.Room() != m.room() || l.Next() != m.up+1 {
		t.Fatalf("Room %d, Next %d, want %d, %d", l.Room(), l.Next(), m.room(), m.up+1)
	}
	if got, want := l.Under(), m.list(m.acked, m.gone); !sameSegments(got, want) {
		t.Fatalf("Under tells %s, want %s", told(got), told(want))
	}
}

// Every call of P302 to P307, in any order.
func TestP307Model(t *testing.T) {
	d := dice(3)
	for range 400 {
		play(t, d.bytes(600))
	}
}

func FuzzPlay(f *testing.F) {
	d := dice(4)
	for range 20 {
		f.Add(d.bytes(200))
	}
	f.Fuzz(play)
}
