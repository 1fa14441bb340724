package net_test

import (
	"bytes"
	"testing"

	"sluice/api"
	"sluice/net"
)

// model is a bag that makes a new list at each change.
type model struct {
	room int
	list []api.Letter
}

func (m *model) has(i int) bool { return 0 <= i && i < len(m.list) }

func (m *model) send(l api.Letter) api.Errno {
	if len(m.list) >= m.room {
		return api.ErrLost
	}
	l.Data = bytes.Clone(l.Data)
	m.list = append(append([]api.Letter{}, m.list...), l)
	return api.OK
}

func (m *model) at(i int) (api.Letter, api.Errno) {
	if !m.has(i) {
		return api.Letter{}, api.ErrIndex
	}
	return m.list[i], api.OK
}

func (m *model) deliver(i int) (api.Letter, api.Errno) {
	l, e := m.at(i)
	if e != api.OK {
		return l, e
	}
	var rest []api.Letter
	for k, other := range m.list {
		if k != i {
			rest = append(rest, other)
		}
	}
	m.list = rest
	return l, api.OK
}

func (m *model) double(i int) api.Errno {
	l, e := m.at(i)
	if e != api.OK {
		return e
	}
	return m.send(l)
}

func (m *model) move(i, j int) api.Errno {
	if !m.has(i) || !m.has(j) {
		return api.ErrIndex
	}
	l, _ := m.deliver(i)
	var now []api.Letter
	for _, other := range m.list {
		if len(now) == j {
			now = append(now, l)
		}
		now = append(now, other)
	}
	if len(now) == j {
		now = append(now, l)
	}
	m.list = now
	return api.OK
}

// source tells bytes one by one, and 0 behind their end.
type source []byte

func (s *source) next() int {
	if len(*s) == 0 {
		return 0
	}
	b := (*s)[0]
	*s = (*s)[1:]
	return int(b)
}

// place tells one that is mostly in the bag.
func (s *source) place(m *model) int { return s.next()%(len(m.list)+3) - 1 }

func (s *source) letter() api.Letter {
	return api.Letter{From: s.next(), To: s.next(), Data: bytes.Repeat([]byte{byte(s.next())}, s.next()%4)}
}

// play plays what some bytes say at a bag and at the model, and holds all that they tell against each other.
func play(t *testing.T, script []byte) {
	s := source(script)
	m := &model{room: 1 + s.next()%20}
	b := made(t, m.room)
	for len(s) > 0 {
		playCall(t, &s, b, m)
		wantAll(t, b, m.list)
		if t.Failed() {
			return
		}
	}
}

func playCall(t *testing.T, s *source, b *net.Bag, m *model) {
	switch s.next() % 8 {
	case 0, 1, 2:
		l := s.letter()
		want(t, "Send", b.Send(l), m.send(l))
	case 3:
		i := s.place(m)
		want(t, "Double", b.Double(i), m.double(i))
	case 4:
		i := s.place(m)
		_, e := m.deliver(i)
		want(t, "Drop", b.Drop(i), e)
	case 5:
		i := s.place(m)
		got, e := b.Deliver(i)
		wanted, wantedE := m.deliver(i)
		if e != wantedE || !same(got, wanted) {
			t.Errorf("Deliver(%d) = %s, %d, want %s, %d", i, told([]api.Letter{got}), e, told([]api.Letter{wanted}), wantedE)
		}
		spoil(got.Data)
	default:
		i, j := s.place(m), s.place(m)
		want(t, "Move", b.Move(i, j), m.move(i, j))
	}
}

// Every call of P402 to P405, in any order.
func TestP405Model(t *testing.T) {
	d := dice(7)
	for range 400 {
		play(t, d.bytes(600))
	}
}

// None comes that was not sent: what was sent comes just as often as it was sent and doubled, less what was dropped.
func TestP404NoneFromNowhere(t *testing.T) {
	d := dice(8)
	b := made(t, 32)
	var under [256]int
	for range 20000 {
		switch d.roll(6) {
		case 0, 1:
			c := byte(d.roll(256))
			if b.Send(api.Letter{From: int(c), To: -int(c), Data: []byte{c, c}}) == api.OK {
				under[c]++
			}
		case 2:
			i := d.roll(34) - 1
			l, _ := b.At(i)
			if b.Double(i) == api.OK {
				under[l.From]++
			}
		case 3:
			i := d.roll(34) - 1
			l, _ := b.At(i)
			if b.Drop(i) == api.OK {
				under[l.From]--
			}
		case 4:
			b.Move(d.roll(34)-1, d.roll(34)-1)
		case 5:
			l, e := b.Deliver(d.roll(34) - 1)
			if e != api.OK {
				continue
			}
			c := byte(l.From)
			if !same(l, api.Letter{From: int(c), To: -int(c), Data: []byte{c, c}}) || under[c] == 0 {
				t.Fatalf("%s comes, %d of it are under way", told([]api.Letter{l}), under[c])
			}
			under[c]--
		}
	}
}

func FuzzPlay(f *testing.F) {
	d := dice(9)
	for range 20 {
		f.Add(d.bytes(200))
	}
	f.Fuzz(play)
}
