package check_test

import (
	"slices"
	"testing"

	"sluice/api"
	"sluice/atom"
	"sluice/check"
)

// isAnswered: ErrTimeout is no answer here.
func isAnswered(p api.Past) bool { return p.To != -1 && p.Err != api.ErrTimeout }

// isHistory is P1701.
func isHistory(history []api.Past) bool {
	for i, p := range history {
		if p.Op.Kind < 1 || p.Op.Kind > 11 || p.From < 0 || p.To != -1 && p.To < p.From {
			return false
		}
		for _, q := range history[:i] {
			if p.Call == q.Call {
				return false
			}
		}
	}
	return true
}

// isWrong is P1703's list, of the effect at a place; m has done those ahead of it.
func isWrong(history []api.Past, effects []api.Effect, at int, m *atom.Map) bool {
	e := effects[at]
	if e.Step < 0 || at > 0 && e.Step < effects[at-1].Step {
		return true
	}
	if e.Call.Session < 0 {
		if e.Op.Kind != 12 || e.Err != 0 {
			return true
		}
		return !m.Allows(e)
	}
	i := slices.IndexFunc(history, func(p api.Past) bool { return p.Call == e.Call })
	if i < 0 || slices.ContainsFunc(effects[:at], func(f api.Effect) bool { return f.Call == e.Call }) {
		return true
	}
	p := history[i]
	if p.Op.Kind != e.Op.Kind || p.Op.Name != e.Op.Name || p.Op.A != e.Op.A || p.Op.B != e.Op.B || partOf(p) == none || p.From > e.Step {
		return true
	}
	if isAnswered(p) && (e.Step > p.To || e.Err != p.Err || e.Value != p.Value) {
		return true
	}
	return !m.Allows(e)
}

// verified is P1703.
func verified(history []api.Past, effects []api.Effect) (int, api.Errno) {
	if !isHistory(history) {
		return 0, api.ErrArg
	}
	m := atom.New()
	for i := range effects {
		if isWrong(history, effects, i, m) {
			return i, api.ErrWitness
		}
	}
	for i, p := range history {
		if partOf(p) != must || slices.ContainsFunc(effects, func(e api.Effect) bool { return e.Call == p.Call && e.Op == p.Op }) {
			continue
		}
		return len(effects) + i, api.ErrWitness
	}
	return 0, api.OK
}

// isOrder is P1705's definition, of a list of different places.
func isOrder(history []api.Past, list []int) bool {
	for i, p := range history {
		stands := slices.Contains(list, i)
		switch {
		case stands != (partOf(p) == must) && partOf(p) != may:
			return false
		case stands && p.To != -1 && p.Err == api.ErrRights && (p.Op.Kind == api.OpInc || p.Op.Kind == api.OpDec):
			return false
		}
	}
	if len(list) > 0 && partOf(history[list[len(list)-1]]) != must {
		return false
	}
	for at, i := range list {
		for _, j := range list[:at] {
			if isAnswered(history[i]) && history[i].To < history[j].From {
				return false
			}
		}
	}
	m := atom.New()
	for _, i := range list {
		p := history[i]
		number := 1<<50 + i
		if partOf(p) == must {
			number = p.Value
		}
		value, err := m.Do(p.Op, number)
		if partOf(p) == must && (value != p.Value || err != p.Err) || partOf(p) != must && err != api.OK {
			return false
		}
	}
	return true
}

// least goes through all lists that begin as one does, the least first, to the first that is an order.
func least(history []api.Past, list []int) ([]int, bool) {
	if isOrder(history, list) {
		return list, true
	}
	for i := range history {
		if slices.Contains(list, i) {
			continue
		}
		if order, found := least(history, append(slices.Clone(list), i)); found {
			return order, true
		}
	}
	return nil, false
}

// source tells bytes one by one, and 0 behind their end.
type source []byte

func (s *source) next() int {
	if len(*s) == 0 {
		return 0
	}
	b := (*s)[0]
	*s = (*s)[1:]
	return int(b)
}

func (s *source) pick(n int) int { return s.next() % n }

// someOp is a right one, but for a few.
func (s *source) someOp() api.Op {
	n := s.next()
	o := api.Op{Kind: 1 + n%11, Name: []string{"k", "k", "k", "j"}[s.pick(4)]}
	switch o.Kind {
	case api.OpCreate:
		o.A, o.B = 3+s.pick(8), s.pick(7)
	case api.OpHold:
		o.A, o.B = 1+s.pick(3), 1+s.pick(3)
	case api.OpTake:
		o.A, o.B = s.pick(6), 1+s.pick(3)
	case api.OpRead, api.OpLook:
	case api.OpReset:
		o.A = s.pick(10)
	default:
		o.A = 1 + s.pick(4)
	}
	if n > 250 {
		o.B++
	}
	return o
}

// place plays calls at one place, and notes what a history says of them.
type place struct {
	src     *source
	m       *atom.Map
	step    int
	holds   int // the last hold's number
	history []api.Past
	effects []api.Effect
}

// happens does an op at the place.
func (p *place) happens(call api.Call, o api.Op) (int, api.Errno) {
	number := 0
	if o.Kind == api.OpHold {
		p.holds++
		number = p.holds
	}
	value, err := p.m.Do(o, number)
	if err != api.ErrArg {
		p.effects = append(p.effects, api.Effect{Step: p.step, Call: call, Op: o, Err: err, Value: value})
	}
	return value, err
}

// call notes a call: what it was answered, or another thing, or that it was not.
func (p *place) call(session int, o api.Op) {
	past := api.Past{Call: api.Call{Session: session, Id: 1 + p.src.pick(2)}, Op: o, From: max(0, p.step-p.src.pick(6)), To: p.step + p.src.pick(6)}
	switch n := p.src.pick(16); {
	case n < 9:
		past.Value, past.Err = p.happens(past.Call, o)
	case n < 11: // nobody was told what happened
		past.To, past.Err = p.lost(past.To)
		p.happens(past.Call, o)
	case n < 13: // and nothing did
		past.To, past.Err = p.lost(past.To)
	default:
		past.Err = []api.Errno{api.ErrRights, api.ErrBusy, api.ErrHolds, api.ErrCounters, api.ErrCap}[p.src.pick(5)]
	}
	p.history = append(p.history, past)
}

func (p *place) lost(to int) (int, api.Errno) {
	if p.src.pick(2) == 0 {
		return -1, api.OK
	}
	return to, api.ErrTimeout
}

// played plays so many calls at one place; the first ones are mostly such that there is a counter.
func played(src *source, calls int) *place {
	p := &place{src: src, m: atom.New()}
	for i := range calls {
		p.step += src.pick(3)
		o := src.someOp()
		if i == 0 && src.pick(4) > 0 {
			o = op(api.OpCreate, 6+src.pick(5), src.pick(6))
		}
		p.call(i, o)
		if p.holds > 0 && src.pick(8) == 0 {
			p.expire(1 + src.pick(p.holds))
		}
	}
	return p
}

func (p *place) expire(hold int) {
	e := api.Effect{Step: p.step, Call: api.Call{Session: -1}, Op: op(api.OpExpire, hold)}
	if p.m.Allows(e) {
		p.effects = append(p.effects, e)
	}
}

// spoilEffect turns one thing of an effect, or the effects' order.
func (p *place) spoilEffect() {
	if len(p.effects) == 0 {
		return
	}
	i, j := p.src.pick(len(p.effects)), p.src.pick(len(p.effects))
	e := &p.effects[i]
	switch p.src.pick(10) {
	case 0:
		e.Step += p.src.pick(9) - 4
	case 1:
		e.Call.Session = p.src.pick(8) - 1
	case 2:
		e.Call.Id = 1 + p.src.pick(2)
	case 3:
		e.Op = p.src.someOp()
	case 4:
		e.Err = allErrs()[p.src.pick(len(allErrs()))]
	case 5:
		e.Value += p.src.pick(3) - 1
	case 6:
		p.effects = slices.Delete(p.effects, i, i+1)
	case 7:
		p.effects = append(p.effects, *e)
	case 8:
		p.effects[i], p.effects[j] = p.effects[j], p.effects[i]
	case 9:
		p.effects[i], p.effects[j] = p.effects[j], p.effects[i]
		p.effects[i].Step, p.effects[j].Step = p.effects[j].Step, p.effects[i].Step
	}
}

// spoilPast turns one thing of a call.
func (p *place) spoilPast() {
	if len(p.history) == 0 {
		return
	}
	q := &p.history[p.src.pick(len(p.history))]
	switch p.src.pick(8) {
	case 0:
		q.From += p.src.pick(5) - 2
	case 1:
		q.To += p.src.pick(5) - 2
	case 2:
		q.To = -1
	case 3:
		q.Err = allErrs()[p.src.pick(len(allErrs()))]
	case 4:
		q.Value += p.src.pick(3) - 1
	case 5:
		q.Op = p.src.someOp()
	case 6:
		q.Op.Kind = p.src.pick(14)
	case 7:
		q.Call = api.Call{Session: p.src.pick(8) - 1, Id: 1 + p.src.pick(2)}
	}
}

// spoil turns some things, or none.
func (p *place) spoil() {
	for range max(0, p.src.pick(6)-2) {
		p.spoilEffect()
	}
	for range max(0, p.src.pick(6)-3) {
		p.spoilPast()
	}
}

// wantFound: Search tells what all lists, tried one by one, tell.
func wantFound(t *testing.T, history []api.Past) api.Errno {
	t.Helper()
	if !isHistory(history) {
		wantRefused(t, history, api.ErrArg)
		return api.ErrArg
	}
	order, found := least(history, nil)
	if !found {
		wantRefused(t, history, api.ErrOrderly)
		return api.ErrOrderly
	}
	wantSearch(t, history, order...)
	return api.OK
}

// tally counts what came out.
type tally map[api.Errno]int

func (c tally) want(t *testing.T, atLeast int, errs ...api.Errno) {
	t.Helper()
	for _, e := range errs {
		if c[e] < atLeast {
			t.Errorf("%d came %d times, want %d at least: %v", e, c[e], atLeast, c)
		}
	}
}

// Verify of anything is what the chapter says; what it takes has the consequence.
func verifies(t *testing.T, script []byte) api.Errno {
	src := source(script)
	p := played(&src, 2+src.pick(10))
	p.spoil()
	number, err := verified(p.history, p.effects)
	wantVerify(t, p.history, p.effects, number, err)
	if err == api.OK {
		wantConsequence(t, p.history, p.effects)
	}
	return err
}

func TestP1703Model(t *testing.T) {
	d, came := dice(1703), tally{}
	for range 20000 {
		came[verifies(t, d.bytes(150))]++
	}
	came.want(t, 500, api.OK, api.ErrWitness, api.ErrArg)
}

// Search of anything small is what the chapter says.
func searches(t *testing.T, script []byte) api.Errno {
	src := source(script)
	p := played(&src, 1+src.pick(5))
	p.spoil()
	return wantFound(t, p.history)
}

func TestP1705Model(t *testing.T) {
	d, came := dice(1705), tally{}
	for range 20000 {
		came[searches(t, d.bytes(100))]++
	}
	came.want(t, 200, api.OK, api.ErrOrderly, api.ErrArg)
	for range 100 {
		src := source(d.bytes(150))
		p := played(&src, 6)
		came[wantFound(t, p.history)]++
	}
}

// wantSought: where effects verify a history without holds, there is an order, and none is less than what is found, of
// those that the effects tell.
func wantSought(t *testing.T, history []api.Past, effects []api.Effect) {
	t.Helper()
	order, err := check.Search(history)
	if err != api.OK || !isOrder(history, order) {
		t.Errorf("Search(%+v): %v, %d, with the effects %+v", history, order, err, effects)
	}
	if told := orderOf(history, effects); !isOrder(history, told) || slices.Compare(order, told) > 0 {
		t.Errorf("Search(%+v): %v; the effects tell %v", history, order, told)
	}
}

// orderOf is the order that effects tell: without those that turned nothing and need not be, and what follows the last
// one that must be.
func orderOf(history []api.Past, effects []api.Effect) []int {
	var list []int
	end := 0
	for _, e := range effects {
		i := slices.IndexFunc(history, func(p api.Past) bool { return p.Call == e.Call })
		if partOf(history[i]) != must && e.Err != api.OK {
			continue
		}
		list = append(list, i)
		if partOf(history[i]) == must {
			end = len(list)
		}
	}
	return list[:end]
}

// withoutHolds makes each OpHold an OpDec.
func withoutHolds(script []byte) []byte {
	other := slices.Clone(script)
	for i, b := range other {
		if b%11 == api.OpHold-1 {
			other[i]--
		}
	}
	return other
}

func TestP1706Model(t *testing.T) {
	d, many, longest := dice(1706), 0, 0
	for range 4000 {
		src := source(withoutHolds(d.bytes(200)))
		p := played(&src, 1+src.pick(12))
		if slices.ContainsFunc(p.history, func(q api.Past) bool { return q.Op.Kind == api.OpHold }) {
			t.Fatalf("a hold: %+v", p.history)
		}
		if src.pick(2) == 0 {
			p.spoil()
		}
		if _, err := check.Verify(p.history, p.effects); err != api.OK {
			continue
		}
		many++
		longest = max(longest, len(p.history))
		wantSought(t, p.history, p.effects)
	}
	if many < 1000 || longest < api.MaxSearch {
		t.Errorf("%d histories, up to %d calls", many, longest)
	}
}

func FuzzPlay(f *testing.F) {
	d := dice(17)
	for range 20 {
		f.Add(d.bytes(150))
	}
	f.Fuzz(func(t *testing.T, script []byte) {
		verifies(t, script)
		searches(t, script)
	})
}
