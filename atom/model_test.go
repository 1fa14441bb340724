package atom_test

import (
	"math"
	"slices"
	"testing"

	"sluice/api"
	"sluice/atom"
)

// held: a hold of the model, also one that is over.
type held struct {
	number, amount int
	over           bool
}

// rights is a counter of the model: it reckons with rights, as the document's rules 7 and 10 do where all are at hand.
type rights struct {
	name     string
	down, up int
	holds    []held
}

func (r *rights) locked() int {
	sum := 0
	for _, h := range r.holds {
		if !h.over {
			sum += h.amount
		}
	}
	return sum
}

// turn makes down rights up rights; a number below 0: up rights down rights.
func (r *rights) turn(k int) bool {
	if r.down-k < 0 || r.up+k < 0 {
		return false
	}
	r.down, r.up = r.down-k, r.up+k
	return true
}

func (r *rights) hold(amount, number int) (int, api.Errno) {
	if amount > r.down {
		return 0, api.ErrRights
	}
	if number <= 0 || slices.ContainsFunc(r.holds, func(h held) bool { return h.number == number }) {
		return 0, api.ErrArg
	}
	r.down -= amount
	r.holds = append(r.holds, held{number: number, amount: amount})
	return number, api.OK
}

// end takes a hold out; to is where what it locks goes.
func (r *rights) end(number int, to *int) (int, api.Errno) {
	for i := range r.holds {
		if h := &r.holds[i]; h.number == number && !h.over {
			h.over = true
			*to += h.amount
			return h.amount, api.OK
		}
	}
	return 0, api.ErrHold
}

func (r *rights) fast(o api.Op, number int) (int, api.Errno) {
	moved := true
	switch o.Kind {
	case api.OpInc:
		moved = r.turn(-o.A)
	case api.OpDec:
		moved = r.turn(o.A)
	case api.OpHold:
		return r.hold(o.A, number)
	case api.OpCommit:
		return r.end(o.A, &r.up)
	case api.OpRelease:
		return r.end(o.A, &r.down)
	case api.OpExpire:
		_, e := r.end(o.A, &r.down)
		return 0, e
	default:
		return r.exact(o)
	}
	if !moved {
		return 0, api.ErrRights
	}
	return 0, api.OK
}

func (r *rights) exact(o api.Op) (int, api.Errno) {
	value, free := r.down, r.down+r.up
	switch o.Kind {
	case api.OpTake:
		if value != o.A {
			return 0, api.ErrMismatch
		}
		if !r.turn(o.B) {
			return 0, api.ErrRights
		}
	case api.OpReset:
		if o.A > free {
			return 0, api.ErrCap
		}
		r.down, r.up = o.A, free-o.A
		return o.A, api.OK
	case api.OpRecap:
		more := o.A - free - r.locked()
		if r.up+more < 0 {
			return 0, api.ErrCap
		}
		r.up += more
		return o.A, api.OK
	}
	return value, api.OK
}

// model is the chapter: its counters in the order in which they were made.
type model []*rights

func (m *model) find(name string) *rights {
	for _, r := range *m {
		if r.name == name {
			return r
		}
	}
	return nil
}

func (m *model) do(o api.Op, number int) (int, api.Errno) {
	r := m.find(o.Name)
	switch {
	case !isRight(o) || slices.Contains(badNames(), o.Name):
		return 0, api.ErrArg
	case o.Kind != api.OpCreate && r == nil:
		return 0, api.ErrNone
	case o.Kind != api.OpCreate:
		return r.fast(o, number)
	case r != nil:
		return 0, api.ErrExists
	case o.A-o.B < 0:
		return 0, api.ErrCap
	}
	*m = append(*m, &rights{name: o.Name, down: o.B, up: o.A - o.B})
	return 0, api.OK
}

func (m *model) copy() *model {
	other := &model{}
	for _, r := range *m {
		c := *r
		c.holds = slices.Clone(r.holds)
		*other = append(*other, &c)
	}
	return other
}

func (m *model) names() []string {
	var list []string
	for _, r := range *m {
		list = append(list, r.name)
	}
	slices.Sort(list)
	return list
}

// source tells bytes one by one, and 0 behind their end.
type source []byte

func (s *source) next() int {
	if len(*s) == 0 {
		return 0
	}
	b := (*s)[0]
	*s = (*s)[1:]
	return int(b)
}

func (s *source) name() string {
	n := s.next()
	if n < 250 {
		return []string{"k", "k", "k", "j", "K"}[n%5]
	}
	return badNames()[n%len(badNames())]
}

// amount is mostly a small one, or at the edge of what there is.
func (s *source) amount(r *rights) int {
	n := s.next()
	switch {
	case n < 130 || r == nil && n < 230:
		return n % 9
	case n < 160:
		return r.down + n%3 - 1
	case n < 190:
		return r.up + n%3 - 1
	case n < 210:
		return r.down + r.up + n%3 - 1
	case n < 230:
		return r.down + r.locked() + n%3 - 1
	case n < 245:
		return maxCap - n%2
	}
	return edges()[n%len(edges())]
}

// number is mostly that of a hold that there is, or was, or could be.
func (s *source) number(r *rights) int {
	n := s.next()
	switch {
	case n < 150 && r != nil && len(r.holds) > 0:
		return r.holds[max(0, len(r.holds)-1-n%6)].number
	case n < 240:
		return 1 + n%60
	}
	return []int{0, -1, math.MinInt, math.MaxInt, 1 << 32}[n%5]
}

// op is mostly a right one.
func (s *source) op(m *model) api.Op {
	n := s.next()
	o := api.Op{Kind: n % 13, Name: s.name()}
	r := m.find(o.Name)
	switch o.Kind {
	case api.OpCreate:
		o.A, o.B = 4+s.amount(r), s.amount(r)
	case api.OpHold:
		o.A, o.B = s.amount(r), 1+s.next()
	case api.OpCommit, api.OpRelease, api.OpExpire:
		o.A = s.number(r)
	case api.OpTake:
		o.A, o.B = s.amount(r), s.amount(r)
		if r != nil && n < 200 {
			o.A = r.down
		}
	case api.OpRead:
	default:
		o.A = s.amount(r)
	}
	if n > 250 {
		o.B = s.amount(r)
	}
	return o
}

// wantLike: both tell the same, and it is what a counter can be.
func wantLike(t *testing.T, m *atom.Map, like *model) {
	t.Helper()
	wantNames(t, m, like.names()...)
	for _, name := range []string{"k", "j", "K"} {
		r := like.find(name)
		if r == nil {
			wantNone(t, m, name)
			continue
		}
		wantPeek(t, m, name, r.down, r.locked(), r.down+r.up+r.locked())
		if s := seen(m, name); s.value < 0 || s.held < 0 || s.value+s.held > s.limit || s.limit > maxCap {
			t.Errorf("%q: %+v", name, s)
		}
	}
}

// effect plays an effect at the map and at the model: what the op is answered, or another thing.
func effect(t *testing.T, m *atom.Map, like *model, o api.Op, src *source) {
	t.Helper()
	trial := like.copy()
	number := src.number(like.find(o.Name))
	answer, err := trial.do(o, number)
	e := api.Effect{Step: src.next(), Call: api.Call{Session: src.next() - 1, Id: src.next()}, Op: o, Err: err, Value: answer}
	switch n := src.next(); {
	case n < 30:
		e.Value += n%5 - 2
	case n < 60:
		errs := []api.Errno{api.OK, api.ErrArg, api.ErrRights, api.ErrCap, api.ErrHold, api.ErrNone, api.ErrExists, api.ErrMismatch}
		e.Err = errs[n%len(errs)]
	}
	trial = like.copy()
	answer, err = trial.do(o, e.Value)
	allowed := answer == e.Value && err == e.Err && err != api.ErrArg
	if got := m.Allows(e); got != allowed {
		t.Errorf("Allows(%+v): %v, want %v", e, got, allowed)
	}
	if allowed {
		*like = *trial
	}
}

// pair is a map, and what it is like.
type pair struct {
	m    *atom.Map
	like *model
}

// play plays what some bytes say, at up to three maps, each but the first a copy of another one.
func play(t *testing.T, script []byte) {
	src := source(script)
	all := []pair{{made(t), &model{}}}
	for len(src) > 0 && !t.Failed() {
		at := src.next()
		p := all[at%len(all)]
		switch {
		case at > 250:
			all = append(all, pair{p.m.Copy(), p.like.copy()})
			all = all[max(0, len(all)-3):]
		case at%2 == 0:
			o := src.op(p.like)
			number := src.number(p.like.find(o.Name))
			answer, err := p.like.do(o, number)
			wantDone(t, p.m, o, number, answer, err)
		default:
			effect(t, p.m, p.like, src.op(p.like), &src)
		}
		for _, q := range all {
			wantLike(t, q.m, q.like)
		}
	}
}

// Every call, in any order, against the chapter; a counter is always within its cap.
func TestP1605Model(t *testing.T) {
	d := dice(16)
	for range 600 {
		play(t, d.bytes(600))
	}
}

func FuzzPlay(f *testing.F) {
	d := dice(17)
	for range 20 {
		f.Add(d.bytes(300))
	}
	f.Fuzz(play)
}
