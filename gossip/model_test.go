package gossip_test

import (
	"math"
	"testing"

	"sluice/api"
	"sluice/gossip"
	"sluice/ledger"
	"sluice/views"
)

// said is a right call of Need that still counts.
type said struct {
	name string
	r    api.Rights
}

// model is the chapter: all that was said since nothing was lacking last.
type model struct {
	me   int
	said []said
}

func (m *model) need(name string, r api.Rights) {
	for _, n := range []int{r.Down, r.Up} {
		if n < 0 || n > maxCap {
			return
		}
	}
	m.said = append(m.said, said{name, r})
}

func (m *model) lacks(name string) api.Rights {
	var r api.Rights
	for _, s := range m.said {
		if s.name == name && s.r.Down > r.Down {
			r.Down = s.r.Down
		}
		if s.name == name && s.r.Up > r.Up {
			r.Up = s.r.Up
		}
	}
	return r
}

func (m *model) forget(name string) {
	var rest []said
	for _, s := range m.said {
		if s.name != name {
			rest = append(rest, s)
		}
	}
	m.said = rest
}

// first goes round from the replica behind me, and tells who has more than all ahead of it there; -1: none has any.
func (m *model) first(has []int) int {
	best := -1
	for way := 1; way < len(has); way++ {
		place := (m.me + way) % len(has)
		if has[place] > 0 && (best < 0 || has[place] > has[best]) {
			best = place
		}
	}
	return best
}

func (m *model) tick(name string, has api.Rights, known []api.Rights) (int, api.Rights, bool) {
	d, u := m.lacks(name).Down-has.Down, m.lacks(name).Up-has.Up
	if d <= 0 && u <= 0 {
		m.forget(name)
		return 0, none, false
	}
	var downs, ups []int
	for _, r := range known {
		downs, ups = append(downs, r.Down), append(ups, r.Up)
	}
	whom := -1
	if d > 0 {
		whom = m.first(downs)
	} else {
		d = 0
	}
	if u <= 0 {
		u = 0
	} else if whom < 0 {
		whom = m.first(ups)
	}
	if whom < 0 {
		return 0, none, false
	}
	m.forget(name)
	return whom, rights(d, u), true
}

// modelGive takes one after the other, as long as no more are given than are left, or would be but for the last.
func modelGive(has, want int) int {
	given := 0
	for given < want && 2*given < has {
		given++
	}
	return given
}

// source tells bytes one by one, and 0 behind their end.
type source []byte

func (s *source) next() int {
	if len(*s) == 0 {
		return 0
	}
	b := (*s)[0]
	*s = (*s)[1:]
	return int(b)
}

func (s *source) name() string { return []string{"a", "b", "c", "dd"}[s.next()%4] }

// number is mostly a small one.
func (s *source) number() int {
	n := s.next()
	switch {
	case n < 230:
		return n % 12
	case n < 245:
		return -n % 3
	case n < 248:
		return maxCap + n%3 - 1
	case n < 250:
		return math.MinInt
	}
	return math.MaxInt
}

// table is a gossip with all that its calls look at.
type table struct {
	g       *gossip.Gossip
	m       *model
	v       *views.Views
	ledgers map[string]*ledger.Ledger
	version int
}

func tabled(t *testing.T, me, replicas int) *table {
	b := &table{g: made(t, me, replicas), m: &model{me: me}, ledgers: map[string]*ledger.Ledger{}}
	b.v = knowing(t, me, "a", make([]api.Rights, replicas)...)
	for _, name := range []string{"a", "b", "c", "dd"} {
		b.ledgers[name] = having(t, none)
	}
	return b
}

// turn changes what a ledger has, or what is known of a replica; both know nothing of gossip.
func (b *table) turn(src *source) {
	name := src.name()
	r := rights(src.next()%10, src.next()%10)
	if src.next()%2 == 0 {
		b.ledgers[name].All()
		b.ledgers[name].In(r)
		return
	}
	b.version++
	from := src.next() % len(b.v.Known(name))
	b.v.Take(from, []api.View{{Name: name, Cap: maxCap, Version: 1 + b.version, Rights: r}})
	b.v.Tell(name, maxCap, 0, rights(src.next()%10, src.next()%10), 0)
}

// step plays one call at the gossip and at the model.
func (b *table) step(t *testing.T, src *source) {
	name := src.name()
	l := b.ledgers[name]
	switch src.next() % 6 {
	case 0, 1:
		r := rights(src.number(), src.number())
		b.g.Need(name, r)
		b.m.need(name, r)
	case 2, 3:
		whom, want, ask := b.m.tick(name, l.Rights(), b.v.Known(name))
		if to, r, there := b.g.Tick(name, l, b.v); to != whom || r != want || there != ask {
			t.Errorf("Tick(%q): %d, %v, %v, want %d, %v, %v", name, to, r, there, whom, want, ask)
		}
	case 4:
		want, has := rights(src.number(), src.number()), l.Rights()
		given := rights(modelGive(has.Down, want.Down), modelGive(has.Up, want.Up))
		wantGiven(t, b.g, l, want, given, rights(has.Down-given.Down, has.Up-given.Up))
	default:
		b.turn(src)
	}
	for _, name := range []string{"a", "b", "c", "dd", ""} {
		wantLacks(t, b.g, name, b.m.lacks(name))
	}
}

// play plays what some bytes say.
func play(t *testing.T, script []byte) {
	src := source(script)
	replicas := 2 + src.next()%15
	if src.next()%2 == 0 {
		replicas = 2 + replicas%3
	}
	b := tabled(t, src.next()%replicas, replicas)
	for len(src) > 0 && !t.Failed() {
		b.step(t, &src)
	}
}

// Every call, in any order, against the chapter.
func TestP1203Model(t *testing.T) {
	d := dice(12)
	for range 600 {
		play(t, d.bytes(600))
	}
}

func FuzzPlay(f *testing.F) {
	d := dice(13)
	for range 20 {
		f.Add(d.bytes(300))
	}
	f.Fuzz(play)
}
