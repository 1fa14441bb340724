package epoch_test

import (
	"math"
	"slices"
	"testing"

	"sluice/api"
	"sluice/epoch"
)

// model is the chapter: all that was ever told, in the order in which it came, and nothing reckoned ahead.
type model struct {
	me, replicas int
	told         []api.Epoch
	over         []api.Epoch
	needsAll     bool
	reports      []said // to all own epochs
}

type said struct {
	from int
	to   api.Epoch
	held int
}

func (m *model) isEpoch(e api.Epoch) bool {
	return e.Round >= 1 && e.Round <= maxRound && e.Rank >= 0 && e.Rank < m.replicas
}

// greatest tells the greatest round of a rank; 0, if there is none.
func greatest(l []api.Epoch, rank int) int {
	round := 0
	for _, e := range l {
		if e.Rank == rank && e.Round > round {
			round = e.Round
		}
	}
	return round
}

func (m *model) live() []api.Epoch {
	var list []api.Epoch
	for rank := range m.replicas {
		if round := greatest(m.told, rank); round > greatest(m.over, rank) {
			list = append(list, ep(round, rank))
		}
	}
	return list
}

func (m *model) own() api.Epoch {
	for _, e := range m.live() {
		if e.Rank == m.me {
			return e
		}
	}
	return none
}

// target sorts: the highest one comes last.
func (m *model) target() api.Epoch {
	list := m.live()
	if len(list) == 0 {
		return none
	}
	slices.SortStableFunc(list, func(a, b api.Epoch) int { return a.Round - b.Round })
	return list[len(list)-1]
}

func (m *model) reported() (int, bool) {
	own := m.own()
	if own == none {
		return 0, false
	}
	last := map[int]int{}
	for _, s := range m.reports {
		if s.to == own {
			last[s.from] = s.held
		}
	}
	sum := 0
	for _, held := range last {
		sum += held
	}
	return sum, len(last) == m.replicas-1
}

func (m *model) turn(before api.Epoch) []epoch.Act {
	own, target := m.own(), m.target()
	if own != none && target != own {
		m.over = append(m.over, own)
		return giveUp(own, target)
	}
	if target != none && target != own && target != before {
		return []epoch.Act{yield(target)}
	}
	if target == none && before != none {
		return []epoch.Act{thaw(m.me)}
	}
	return nil
}

func modelCount(n int) bool { return n >= 0 && n <= maxCap }

func (m *model) begin(limit, rights, held int, all bool) ([]epoch.Act, api.Errno) {
	round := 0
	for rank := range m.replicas {
		round = max(round, greatest(m.told, rank))
	}
	if limit == 0 || !modelCount(limit) || !modelCount(rights) || !modelCount(held) {
		return nil, api.ErrArg
	}
	if len(m.live()) > 0 {
		return nil, api.ErrFrozen
	}
	if round == maxRound {
		return nil, api.ErrLong
	}
	own := ep(round+1, m.me)
	m.told, m.needsAll = append(m.told, own), all
	if acts := m.look(limit, rights, held); len(acts) > 0 {
		return acts, api.OK
	}
	return []epoch.Act{mark(own)}, api.OK
}

func (m *model) end(e, over api.Epoch) []epoch.Act {
	before := m.target()
	if m.isEpoch(e) && e.Rank != m.me {
		m.told, m.over = append(m.told, e), append(m.over, e)
	}
	if m.isEpoch(over) && over.Rank != m.me {
		m.told = append(m.told, over)
	}
	return m.turn(before)
}

func (m *model) report(from int, e api.Epoch, held int) {
	if m.own() != none && m.own() == e && from >= 0 && from < m.replicas && from != m.me && modelCount(held) {
		m.reports = append(m.reports, said{from, e, held})
	}
}

func (m *model) look(limit, rights, held int) []epoch.Act {
	own := m.own()
	sum, all := m.reported()
	if own == none || limit == 0 || !modelCount(limit) || !modelCount(rights) || !modelCount(held) {
		return nil
	}
	if rights+held+sum != limit || m.needsAll && !all {
		return nil
	}
	return []epoch.Act{decide(own)}
}

func (m *model) finish() []epoch.Act {
	before := m.target()
	if m.own() == none {
		return nil
	}
	m.over = append(m.over, m.own())
	return m.turn(before)
}

// source tells bytes one by one, and 0 behind their end.
type source []byte

func (s *source) next() int {
	if len(*s) == 0 {
		return 0
	}
	b := (*s)[0]
	*s = (*s)[1:]
	return int(b)
}

// odd is a number that may be refused; most are small.
func (s *source) odd() int {
	n := s.next()
	if n < 248 {
		return n % 9
	}
	return []int{-1, maxCap, maxCap + 1, math.MaxInt, math.MinInt, 1 << 32, maxCap - 1, -5}[n%8]
}

// near is an epoch whose round is about the target's, so that all that may happen does.
func (s *source) near(m *model) api.Epoch {
	n := s.next()
	if n >= 240 {
		return []api.Epoch{none, ep(1, -1), ep(3, m.replicas), ep(-2, 0), ep(maxRound+1, 1), ep(math.MaxInt, 0), m.own(), m.target()}[n%8]
	}
	last := 0
	for _, e := range m.told {
		last = max(last, e.Round)
	}
	return ep(last-2+n%5, s.next()%m.replicas)
}

// step plays one call at the machine and at the model.
func step(t *testing.T, x *epoch.Machine, m *model, src *source) {
	t.Helper()
	switch src.next() % 8 {
	case 0, 1:
		limit, rights, held, all := src.odd(), src.odd(), src.odd(), src.next()%3 == 0
		want, err := m.begin(limit, rights, held, all)
		if got, e := x.Begin(limit, rights, held, all); e != err || !slices.Equal(got, want) {
			t.Errorf("Begin(%d, %d, %d, %v): %+v, %d, want %+v, %d", limit, rights, held, all, got, e, want, err)
		}
	case 2:
		e := src.near(m)
		wantHeard(t, x, e, m.end(none, e)...)
	case 3, 4:
		e, over := src.near(m), none
		if src.next()%3 == 0 {
			over = src.near(m)
		}
		wantEnded(t, x, e, over, m.end(e, over)...)
	case 5, 6:
		from, e, held := src.odd(), m.own(), src.odd()
		if src.next()%8 == 0 {
			e = src.near(m)
		}
		m.report(from, e, held)
		report(t, x, from, e, held)
	case 7:
		if src.next()%4 == 0 {
			wantActs(t, "Finish", x.Finish(), m.finish()...)
		}
	}
	sum, all := m.reported()
	wantLive(t, x, m.target(), m.live()...)
	wantOwn(t, x, m.own(), sum, all)
	rights, held := src.odd(), src.odd()
	for _, limit := range []int{rights + held + sum, src.odd()} {
		wantLooked(t, x, limit, rights, held, m.look(limit, rights, held)...)
	}
}

// play plays what some bytes say.
func play(t *testing.T, script []byte) {
	src := source(script)
	replicas := 2 + src.next()%15
	if src.next()%2 == 0 {
		replicas = 2 + replicas%3
	}
	m := &model{me: src.next() % replicas, replicas: replicas}
	x := made(t, m.me, replicas)
	if src.next()%8 == 0 { // near the rounds' end
		e := ep(maxRound-src.next()%6, (m.me+1)%replicas)
		wantEnded(t, x, e, none, m.end(e, none)...)
	}
	for len(src) > 0 && !t.Failed() {
		step(t, x, m, &src)
	}
}

// Every call, in any order, against the chapter.
func TestP1109Model(t *testing.T) {
	d := dice(21)
	for range 400 {
		play(t, d.bytes(600))
	}
}

func FuzzPlay(f *testing.F) {
	d := dice(22)
	for range 20 {
		f.Add(d.bytes(300))
	}
	f.Fuzz(play)
}
