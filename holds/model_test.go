package holds_test

import (
	"math"
	"slices"
	"testing"

	"sluice/api"
	"sluice/holds"
	"sluice/ledger"
)

// held: a hold of the model.
type held struct{ number, amount, due int }

// model is the chapter, with its holds in the order in which they were made, and the rights of a ledger of its own.
type model struct {
	me, room, made   int
	list             []held
	down, up, locked int
}

func (m *model) hold(amount, due int) (int, api.Errno) {
	if amount < 1 || amount > maxCap {
		return 0, api.ErrArg
	}
	if len(m.list) == m.room {
		return 0, api.ErrHolds
	}
	if amount > m.down {
		return 0, api.ErrRights
	}
	m.down, m.locked, m.made = m.down-amount, m.locked+amount, m.made+1
	m.list = append(m.list, held{m.made*16 + m.me, amount, due})
	return m.made*16 + m.me, api.OK
}

// end takes a hold out; turned is where what it locks goes.
func (m *model) end(number int, turned *int) (int, api.Errno) {
	if (number-m.me)%16 != 0 {
		return 0, api.ErrReplica
	}
	for i, h := range m.list {
		if h.number != number {
			continue
		}
		if h.amount > m.locked {
			return 0, api.ErrRights
		}
		m.locked -= h.amount
		*turned += h.amount
		m.list = slices.Delete(m.list, i, i+1)
		return h.amount, api.OK
	}
	return 0, api.ErrHold
}

func (m *model) expire(now int) []int {
	var told []int
	for _, h := range slices.Clone(m.list) {
		if h.due > now {
			continue
		}
		if _, e := m.end(h.number, &m.down); e == api.OK {
			told = append(told, h.number)
		}
	}
	return told
}

func (m *model) looks() (int, []int) {
	sum := 0
	var numbers []int
	for _, h := range m.list {
		sum += h.amount
		numbers = append(numbers, h.number)
	}
	return sum, numbers
}

// source tells bytes one by one, and 0 behind their end.
type source []byte

func (s *source) next() int {
	if len(*s) == 0 {
		return 0
	}
	b := (*s)[0]
	*s = (*s)[1:]
	return int(b)
}

// amount is mostly a small one.
func (s *source) amount(m *model) int {
	n := s.next()
	switch {
	case n < 200:
		return n%9 - 1
	case n < 230:
		return m.down + n%3 - 1
	case n < 240:
		return maxCap + n%3 - 1
	case n < 245:
		return math.MinInt + n%3
	}
	return math.MaxInt - n%3
}

// number is mostly that of a hold that there is, or was.
func (s *source) number(m *model) int {
	n := s.next()
	switch {
	case n < 150 && len(m.list) > 0:
		return m.list[n%len(m.list)].number
	case n < 200:
		return (m.made-n%6+1)*16 + m.me
	case n < 230:
		return n%80 - 40
	case n < 240:
		return math.MinInt + n%20
	}
	return math.MaxInt - n%20
}

func (s *source) tick() int {
	n := s.next()
	switch n {
	case 254:
		return math.MaxInt
	case 255:
		return math.MinInt
	}
	return n%24 - 4
}

// others: somebody else locks, frees, burns or adds in the same ledger.
func others(l *ledger.Ledger, m *model, kind, k int) {
	switch kind {
	case 0:
		if l.Lock(k) == api.OK {
			m.down, m.locked = m.down-k, m.locked+k
		}
	case 1:
		if l.Free(k) == api.OK {
			m.down, m.locked = m.down+k, m.locked-k
		}
	case 2:
		if l.Burn(k) == api.OK {
			m.up, m.locked = m.up+k, m.locked-k
		}
	default:
		if l.Inc(k) == api.OK {
			m.down, m.up = m.down+k, m.up-k
		}
	}
}

// step plays one call at the book and at the model. alone: nobody else locks, frees or burns.
func step(t *testing.T, b *holds.Book, l *ledger.Ledger, m *model, src *source, alone bool) {
	t.Helper()
	kind := src.next() % 16
	switch {
	case kind < 6:
		amount, due := src.amount(m), src.tick()
		number, err := m.hold(amount, due)
		wantHold(t, b, l, amount, due, number, err)
	case kind < 8:
		number := src.number(m)
		amount, err := m.end(number, &m.up)
		wantCommit(t, b, l, number, amount, err)
	case kind < 10:
		number := src.number(m)
		amount, err := m.end(number, &m.down)
		wantRelease(t, b, l, number, amount, err)
	case kind < 12:
		now := src.tick() / 2
		wantExpired(t, b, l, now, m.expire(now)...)
	case alone:
		others(l, m, 3, src.next()%9+1)
	default:
		others(l, m, kind-12, src.next()%9+1)
	}
	sum, numbers := m.looks()
	wantBook(t, b, sum, numbers...)
	wantLedger(t, l, m.down, m.up, m.locked)
	if alone && b.Sum() != l.Held() {
		t.Errorf("Sum: %d, Held: %d", b.Sum(), l.Held())
	}
}

// play plays what some bytes say.
func play(t *testing.T, script []byte) {
	src := source(script)
	m := &model{me: src.next() % 16, room: src.next() % 17}
	m.down = []int{0, 5, 40, 40, maxCap}[src.next()%5]
	alone := src.next()%2 == 0
	b, l := made(t, m.me, m.room), rights(t, maxCap, m.down, 0)
	for len(src) > 0 && !t.Failed() {
		step(t, b, l, m, &src, alone)
	}
}

// Every call, in any order, against the chapter; where nobody else turns what is held, Sum is Held.
func TestP707Model(t *testing.T) {
	d := dice(7)
	for range 800 {
		play(t, d.bytes(500))
	}
}

func FuzzPlay(f *testing.F) {
	d := dice(8)
	for range 20 {
		f.Add(d.bytes(200))
	}
	f.Fuzz(play)
}
