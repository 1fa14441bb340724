package ledger_test

import (
	"math"
	"math/big"
	"testing"

	"sluice/api"
	"sluice/ledger"
)

// The calls that change a ledger: those with two arguments, with one, with none.
const (
	callIn = iota
	callOut
	callRecap
	callHear
	callDec
	callInc
	callLock
	callFree
	callBurn
	callSet
	callAll
	calls
)

// call: what is called, with a and b as far as it has arguments.
type call struct{ kind, a, b int }

// answer: what it tells, as far as it tells that.
type answer struct {
	e      api.Errno
	rights api.Rights
	heard  bool
}

func (c call) on(l *ledger.Ledger) answer {
	switch c.kind {
	case callIn:
		return answer{e: l.In(rights(c.a, c.b))}
	case callOut:
		return answer{e: l.Out(rights(c.a, c.b))}
	case callRecap:
		return answer{e: l.Recap(c.a, c.b)}
	case callHear:
		return answer{heard: l.Hear(c.a, c.b)}
	case callDec:
		return answer{e: l.Dec(c.a)}
	case callInc:
		return answer{e: l.Inc(c.a)}
	case callLock:
		return answer{e: l.Lock(c.a)}
	case callFree:
		return answer{e: l.Free(c.a)}
	case callBurn:
		return answer{e: l.Burn(c.a)}
	case callSet:
		return answer{e: l.Set(c.a)}
	}
	return answer{rights: l.All()}
}

// sum is without a bound, as the chapter's "together" is.
func sum(list ...int) *big.Int {
	s := new(big.Int)
	for _, n := range list {
		s.Add(s, big.NewInt(int64(n)))
	}
	return s
}

func isCap(n int) bool { return n >= 1 && n <= maxCap }

// do is the chapter: what a call answers where a ledger is in this state, which is then the one behind it.
func (s *state) do(c call) answer {
	switch c.kind {
	case callIn:
		return answer{e: s.in(c.a, c.b)}
	case callOut:
		return answer{e: s.out(c.a, c.b)}
	case callRecap:
		return answer{e: s.recap(c.a, c.b)}
	case callHear:
		if !isCap(c.a) || c.b <= s.recaps || big.NewInt(int64(c.a)).Cmp(sum(s.down, s.up, s.held)) < 0 {
			return answer{}
		}
		s.limit, s.recaps = c.a, c.b
		return answer{heard: true}
	case callSet:
		return answer{e: s.set(c.a)}
	case callAll:
		r := rights(s.down, s.up)
		s.down, s.up = 0, 0
		return answer{rights: r}
	}
	return answer{e: s.turn(c.kind, c.a)}
}

func (s *state) in(down, up int) api.Errno {
	if down < 0 || up < 0 {
		return api.ErrArg
	}
	if sum(s.down, s.up, s.held, down, up).Cmp(big.NewInt(int64(s.limit))) > 0 {
		return api.ErrCap
	}
	s.down, s.up = s.down+down, s.up+up
	return api.OK
}

func (s *state) out(down, up int) api.Errno {
	if down < 0 || up < 0 {
		return api.ErrArg
	}
	if s.down < down || s.up < up {
		return api.ErrRights
	}
	s.down, s.up = s.down-down, s.up-up
	return api.OK
}

func (s *state) turn(kind, k int) api.Errno {
	if k < 1 || k > maxCap {
		return api.ErrArg
	}
	now := *s
	switch kind {
	case callDec:
		now.down, now.up = s.down-k, s.up+k
	case callInc:
		now.down, now.up = s.down+k, s.up-k
	case callLock:
		now.down, now.held = s.down-k, s.held+k
	case callFree:
		now.down, now.held = s.down+k, s.held-k
	case callBurn:
		now.up, now.held = s.up+k, s.held-k
	}
	if now.down < 0 || now.up < 0 || now.held < 0 {
		return api.ErrRights
	}
	*s = now
	return api.OK
}

func (s *state) set(down int) api.Errno {
	if down < 0 {
		return api.ErrArg
	}
	if down > s.down+s.up {
		return api.ErrCap
	}
	s.down, s.up = down, s.down+s.up-down
	return api.OK
}

func (s *state) recap(limit, recaps int) api.Errno {
	if !isCap(limit) || recaps <= s.recaps {
		return api.ErrArg
	}
	up := s.up + limit - s.limit
	if up < 0 {
		return api.ErrCap
	}
	s.up, s.limit, s.recaps = up, limit, recaps
	return api.OK
}

// within is what holds at every moment.
func (s state) within() bool {
	return s.down >= 0 && s.up >= 0 && s.held >= 0 && s.down+s.up+s.held <= s.limit && isCap(s.limit) && s.recaps >= 0
}

// same lets a ledger and the model do one call.
func same(t *testing.T, l *ledger.Ledger, s *state, c call) {
	t.Helper()
	from := *s
	wanted := s.do(c)
	if got := c.on(l); got != wanted || seen(l) != *s {
		t.Errorf("at %+v the call %+v: %+v, then %+v, want %+v, %+v", from, c, got, seen(l), wanted, *s)
	}
	if now := seen(l); !now.within() {
		t.Errorf("at %+v the call %+v leads to %+v", from, c, now)
	}
}

// smallStates: all of the caps 1 to 4.
func smallStates() []state {
	var list []state
	for limit := 1; limit <= 4; limit++ {
		for all := range (limit + 1) * (limit + 1) * (limit + 1) {
			s := state{all % (limit + 1), all / (limit + 1) % (limit + 1), all / (limit + 1) / (limit + 1), limit, 0}
			if s.within() {
				list = append(list, s)
				s.recaps = 2
				list = append(list, s)
			}
		}
	}
	return list
}

// greatStates: at the greatest caps.
func greatStates() []state {
	var list []state
	for _, limit := range []int{maxCap - 1, maxCap} {
		for _, s := range []state{
			{}, {down: limit}, {up: limit}, {held: limit}, {1, 1, limit - 2, 0, 0}, {1, limit - 2, 1, 0, 0}, {limit - 2, 1, 1, 0, 0},
			{limit / 3, limit / 3, limit / 3, 0, 0}, {down: limit / 2, recaps: 1 << 62}, {up: limit / 2, recaps: math.MaxInt - 1}, {held: limit / 2, recaps: math.MaxInt},
		} {
			s.limit = limit
			list = append(list, s)
		}
	}
	return list
}

// Every call at every state of small caps, with all arguments about them and far beyond.
func TestP609Everywhere(t *testing.T) {
	numbers := []int{
		-2, -1, 0, 1, 2, 3, 4, 5, 6, maxCap - 2, maxCap - 1, maxCap, maxCap + 1, maxCap / 2, maxCap / 3,
		1 << 62, math.MaxInt - 1, math.MaxInt, math.MinInt, math.MinInt + 1,
	}
	for _, from := range append(smallStates(), greatStates()...) {
		for kind := range calls {
			for _, a := range numbers {
				for _, b := range numbers {
					s, l := from, at(t, from)
					same(t, l, &s, call{kind, a, b})
					if kind >= callDec {
						break
					}
				}
				if t.Failed() {
					return
				}
			}
		}
	}
}

// source tells bytes one by one, and 0 behind their end.
type source []byte

func (s *source) next() int {
	if len(*s) == 0 {
		return 0
	}
	b := (*s)[0]
	*s = (*s)[1:]
	return int(b)
}

// number is mostly a small one, often one about what the ledger has, and now and then one beyond the bounds.
func (s *source) number(about state) int {
	n := s.next()
	off := n%5 - 2
	switch {
	case n < 120:
		return n%16 - 1
	case n < 150:
		return about.down + off
	case n < 170:
		return about.up + off
	case n < 190:
		return about.held + off
	case n < 210:
		return about.limit - about.down - about.up - about.held + off
	case n < 230:
		return about.recaps + off
	case n < 245:
		return maxCap + off
	case n < 250:
		return math.MaxInt - n%5
	}
	return math.MinInt + n%5
}

// play plays what some bytes say at a ledger and at the model.
func play(t *testing.T, script []byte) {
	src := source(script)
	s := state{limit: []int{1, 5, 20, 1000, maxCap}[src.next()%5]}
	l := made(t, s.limit)
	for len(src) > 0 && !t.Failed() {
		same(t, l, &s, call{src.next() % calls, src.number(s), src.number(s)})
	}
}

// Every call of P602 to P607, in any order.
func TestP609Model(t *testing.T) {
	d := dice(6)
	for range 400 {
		play(t, d.bytes(600))
	}
}

// pool is ledgers of one counter, rights that are under way between them, and how many there must be in all.
type pool struct {
	ledgers []*ledger.Ledger
	under   []api.Rights
	total   int
}

func (p *pool) count() int {
	n := 0
	for _, l := range p.ledgers {
		s := seen(l)
		n += s.down + s.up + s.held
	}
	for _, r := range p.under {
		n += r.Down + r.Up
	}
	return n
}

func (p *pool) step(d *dice) {
	l := p.ledgers[d.roll(len(p.ledgers))]
	k := d.roll(12) - 1
	switch d.roll(8) {
	case 0:
		if r := rights(k, d.roll(12)-1); l.Out(r) == api.OK {
			p.under = append(p.under, r)
		}
	case 1:
		p.under = append(p.under, l.All())
	case 2, 3:
		if len(p.under) > 0 && l.In(p.under[0]) == api.OK {
			p.under = p.under[1:]
		}
	case 4:
		limit, recaps := l.Cap()
		if l.Recap(limit+k-5, recaps+1) == api.OK {
			p.total += k - 5
		}
	case 5:
		limit, recaps := p.ledgers[d.roll(len(p.ledgers))].Cap()
		l.Hear(limit, recaps)
	default:
		call{callDec + d.roll(callAll-callDec), k, 0}.on(l)
	}
}

// No right is made or lost, over several ledgers between which rights are handed.
func TestP609Conserved(t *testing.T) {
	d := dice(9)
	for range 50 {
		p := &pool{total: 60}
		for range 4 {
			p.ledgers = append(p.ledgers, made(t, 60))
		}
		want(t, "In", p.ledgers[0].In(rights(25, 35)), api.OK)
		for i := range 1000 {
			p.step(&d)
			if n := p.count(); n != p.total {
				t.Fatalf("behind step %d: %d rights, want %d", i, n, p.total)
			}
			for _, l := range p.ledgers {
				if s := seen(l); !s.within() {
					t.Fatalf("behind step %d: %+v", i, s)
				}
			}
		}
	}
}

func FuzzPlay(f *testing.F) {
	d := dice(10)
	for range 20 {
		f.Add(d.bytes(200))
	}
	f.Fuzz(play)
}
