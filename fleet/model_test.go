package fleet_test

import (
	"bytes"
	"reflect"
	"slices"
	"testing"

	"sluice/api"
	"sluice/fleet"
	"sluice/replica"
	"sluice/wire"
)

// part is a replica that no power loss befalls, and beside it what its disk must have, put together plainly.
type part struct {
	r     *replica.Replica
	up    bool
	image []byte
	next  int // the sector behind the last record
	count int // records
	fuse  []int
	later []int
}

// write lays the sectors of a record down, till the power fails: whether it has, and whether the record stands.
func (p *part) write(record []byte) (failed, stands bool) {
	sectors := laid(p.count+1, record)
	for at := 0; at < len(sectors); at += 512 {
		n := 512
		if p.fuse != nil && p.fuse[0] == 0 {
			n, failed = min(max(p.fuse[1], 0), 512), true
		} else if p.fuse != nil {
			p.fuse[0]--
		}
		copy(p.image[512*p.next+at:], sectors[at:at+n])
		if failed {
			p.fuse, p.up = nil, false
			stands = n == 512 && at+512 == len(sectors)
			break
		}
	}
	if !failed || stands {
		p.next += len(sectors) / 512
		p.count++
	}
	return failed, !failed || stands
}

// take takes an input, by its bytes, and by what the replica does with it.
func (p *part) take(record []byte, do func(r *replica.Replica) (api.Acts, api.Errno)) (api.Acts, api.Errno) {
	switch {
	case !p.up:
		return api.Acts{}, api.ErrDown
	case len(record) > 8192:
		return api.Acts{}, api.ErrLong
	case p.next+len(laid(1, record))/512 > 2048:
		return api.Acts{}, api.ErrSpace
	}
	failed, stands := p.write(record)
	var acts api.Acts
	var e api.Errno
	if stands {
		acts, e = do(p.r)
	}
	if failed {
		acts.Frames, acts.Replies, e = nil, nil, api.ErrDown
	}
	return acts, e
}

// parts are such replicas, and a list of letters that is new at each change.
type parts struct {
	c       api.Config
	all     []*part
	letters []api.Letter
	step    int
	effects []api.Effect
	downs   int // inputs in which the power failed
	saved   int // of them those that lasted
}

func partsOf(c api.Config) *parts {
	p := &parts{c: c}
	for me := range c.Replicas {
		r, _ := replica.New(c, me)
		p.all = append(p.all, &part{r: r, up: true, image: make([]byte, imageSize)})
	}
	return p
}

// do takes a step as chapters 15 and 23 say, one thing behind the other.
func (p *parts) do(s api.Step) api.Answer {
	p.step++
	switch {
	case slices.Contains(named, s.Kind) && (s.Replica < 0 || s.Replica >= p.c.Replicas):
		return api.Answer{Err: api.ErrReplica}
	case slices.Contains(named, s.Kind):
		return p.doReplica(p.all[s.Replica], s)
	case s.Kind == api.StepBag:
		return api.Answer{Bag: slices.Clone(p.letters)}
	case s.Kind == api.StepWitness:
		return api.Answer{Witness: slices.Clone(p.effects)}
	case slices.Contains(others, s.Kind):
		return p.doBag(s)
	}
	return api.Answer{Err: api.ErrStep}
}

func (p *parts) doReplica(one *part, s api.Step) api.Answer {
	switch s.Kind {
	case api.StepSee:
		return api.Answer{Sight: one.r.See(), Up: one.up}
	case api.StepImage:
		return api.Answer{Image: bytes.Clone(one.image)}
	case api.StepCrash:
		if !one.up {
			return api.Answer{Err: api.ErrDown}
		}
		one.up, one.fuse = false, nil
		return api.Answer{}
	case api.StepRestart:
		if one.up {
			return api.Answer{Err: api.ErrStep}
		}
		one.up, one.fuse, one.later = true, one.later, nil
		return api.Answer{}
	case api.StepArm:
		var fuse []int
		if s.I >= 0 {
			fuse = []int{s.I, s.J}
		}
		if one.up {
			one.fuse = fuse
		} else {
			one.later = fuse
		}
		return api.Answer{}
	}
	return p.doInput(one, s)
}

func (p *parts) doInput(one *part, s api.Step) api.Answer {
	record, do := dataForm(4, nil), func(r *replica.Replica) (api.Acts, api.Errno) { return r.Tick(), api.OK }
	switch s.Kind {
	case api.StepCall:
		record = callForm(s.Call, s.Op)
		do = func(r *replica.Replica) (api.Acts, api.Errno) { return r.Call(s.Call, s.Op) }
	case api.StepRequest:
		record = dataForm(2, s.Data)
		do = func(r *replica.Replica) (api.Acts, api.Errno) { return r.Request(s.Data) }
	case api.StepFrame:
		record = dataForm(3, s.Data)
		do = func(r *replica.Replica) (api.Acts, api.Errno) { return r.Frame(s.Data) }
	}
	was := one.up
	acts, e := one.take(record, do)
	if was && !one.up {
		p.downs++
		p.saved += min(1, len(acts.Effects))
	}
	for _, l := range acts.Frames {
		p.send(l)
	}
	for _, f := range acts.Effects {
		f.Step = p.step
		p.effects = append(slices.Clone(p.effects), f)
	}
	return api.Answer{Err: e, Replies: acts.Replies}
}

func (p *parts) send(l api.Letter) api.Errno {
	if len(p.letters) >= p.c.Bag {
		return api.ErrLost
	}
	p.letters = append(slices.Clone(p.letters), l)
	return api.OK
}

func (p *parts) doBag(s api.Step) api.Answer {
	n := len(p.letters)
	if s.I < 0 || s.I >= n || s.Kind == api.StepMove && (s.J < 0 || s.J >= n) {
		return api.Answer{Err: api.ErrIndex}
	}
	l := p.letters[s.I]
	if s.Kind == api.StepDouble {
		return api.Answer{Err: p.send(l)}
	}
	rest := slices.Concat(p.letters[:s.I], p.letters[s.I+1:])
	p.letters = rest
	switch s.Kind {
	case api.StepMove:
		p.letters = slices.Concat(rest[:s.J], []api.Letter{l}, rest[s.J:])
	case api.StepDeliver:
		return p.doInput(p.all[l.To], api.Step{Kind: api.StepFrame, Data: l.Data})
	}
	return api.Answer{}
}

// source tells bytes one by one, and 0 behind their end.
type source []byte

func (s *source) next(n int) int {
	if len(*s) == 0 {
		return 0
	}
	b := int((*s)[0])
	*s = (*s)[1:]
	return b % n
}

func (s *source) take(n int) []byte {
	n = min(n, len(*s))
	b := (*s)[:n:n]
	*s = (*s)[n:]
	return b
}

// player makes steps of bytes, some of them by what the parts are like then.
type player struct {
	*source
	p     *parts
	last  map[int]int // the last id of each session that was taken
	asked api.Call    // the last call
}

var playNames = []string{"a", "b", "c", "d", "k", "q"}

func (g *player) index() int { return g.next(len(g.p.letters)+2) - 1 }

func (g *player) replica() int {
	if g.next(30) == 0 {
		return []int{-1, g.p.c.Replicas, 1 << 40}[g.next(3)]
	}
	return g.next(g.p.c.Replicas)
}

// call is mostly the next one of a session, or the last one again.
func (g *player) call(me int) api.Call {
	session := me + g.p.c.Replicas*g.next(2)
	g.asked = id(session, g.last[session]+[]int{1, 1, 1, 1, 1, 1, 0, 0, -1, 2}[g.next(10)])
	return g.asked
}

// hear takes what the step of a call was answered.
func (g *player) hear(a api.Answer) {
	if a.Err == api.OK {
		g.last[g.asked.Session] = max(g.last[g.asked.Session], g.asked.Id)
	}
	g.asked = api.Call{}
}

func (g *player) op() api.Op {
	amounts := []int{0, 1, 1, 2, 3, 5, 8, 10, 16, 17, 18, 20, 33, api.MaxCap, -1}
	o := op(1+g.next(12), playNames[g.next(1+g.next(len(playNames)))], amounts[g.next(len(amounts))])
	switch o.Kind {
	case api.OpCreate, 12:
		o.Kind, o.A, o.B = api.OpCreate, 4+g.next(20), g.next(9)
	case api.OpHold, api.OpTake:
		o.B = 1 + g.next(6)
	case api.OpRead, api.OpLook:
		o.A = 0
	}
	return o
}

// frame is bytes, of one sector or more or too many, a frame of the bag, or one from nowhere that opens.
func (g *player) frame(t *testing.T, me int) []byte {
	switch x := g.next(6); {
	case x == 0:
		return bytes.Repeat([]byte{3}, []int{0, 1, 495, 496, 991, 992, 8191, 8192}[g.next(8)])
	case x < 3 && len(g.p.letters) > 0:
		return g.p.letters[g.next(len(g.p.letters))].Data
	case x < 4 || me < 0 || me >= g.p.c.Replicas:
		return g.take(g.next(12))
	}
	from := (me + 1) % g.p.c.Replicas
	next := g.p.all[me].r.See().Next[from]
	m := api.Msg{Kind: api.MsgMark + g.next(2), Name: "k", Cap: 9, Epoch: api.Epoch{Round: 1 + g.next(5), Rank: g.next(g.p.c.Replicas)}}
	data, e := wire.Encode(m)
	if e != api.OK {
		t.Fatalf("no message: %+v", m)
	}
	return sealed(t, api.Segment{From: from, To: me, Seq: next, Data: data})
}

// step is any one.
func (g *player) step(t *testing.T) api.Step {
	me := g.replica()
	s := api.Step{Kind: g.next(30), Replica: me, I: g.index(), J: g.index()}
	switch {
	case s.Kind > 24:
		s.Kind = api.StepDeliver
	case s.Kind > 18:
		s.Kind = api.StepCall
	case s.Kind > 16:
		s.Kind = api.StepRestart
	case s.Kind == api.StepImage && g.next(4) > 0:
		s.Kind = api.StepTick
	}
	switch s.Kind {
	case api.StepCall:
		s.Call, s.Op = g.call(me), g.op()
	case api.StepRequest:
		s.Data = g.take(g.next(9))
		if g.next(3) > 0 {
			if data, e := wire.EncodeRequest(g.call(me), g.op()); e == api.OK {
				s.Data = data
			}
		}
	case api.StepFrame:
		s.Data = g.frame(t, me)
	case api.StepArm:
		s.I, s.J = g.next(7)/2-1, []int{0, -1, 7, 8, 300, 504, 511, 512, 512, 512, 600}[g.next(11)]
	}
	return s
}

func (g *player) config() api.Config {
	replicas := 2 + g.next(3)
	return api.Config{
		Replicas: replicas, Window: 1 + g.next(3), Resend: 1 + g.next(3), Timeout: 1 + g.next(12), Queue: 1 + g.next(4), Cache: 1 + g.next(3),
		Counters: 1 + g.next(3), Holds: g.next(3), Sessions: 2 * replicas, Bag: 1 + g.next(40),
	}
}

// script is the config and the steps that bytes say, behind so many ticks of each replica, and the parts with what they
// answer.
func script(t *testing.T, in []byte, ticks int) (*parts, []api.Step, []api.Answer) {
	t.Helper()
	rest := source(bytes.Clone(in))
	g := &player{source: &rest, last: map[int]int{}}
	g.p = partsOf(g.config())
	var steps []api.Step
	var answers []api.Answer
	take := func(s api.Step) {
		steps = append(steps, s)
		answers = append(answers, g.p.do(s))
		g.hear(answers[len(answers)-1])
	}
	for i := range ticks * g.p.c.Replicas {
		take(api.Step{Kind: api.StepTick, Replica: i % g.p.c.Replicas})
	}
	for len(rest) > 0 {
		take(g.step(t))
	}
	return g.p, steps, answers
}

// sameAnswer holds two answers against each other; no list is the same as an empty one.
func sameAnswer(a, b api.Answer) bool {
	if !slices.Equal(a.Replies, b.Replies) || !sameLetters(a.Bag, b.Bag) || !slices.Equal(a.Witness, b.Witness) || !bytes.Equal(a.Image, b.Image) {
		return false
	}
	a.Replies, a.Bag, a.Witness, a.Image = nil, nil, nil, nil
	b.Replies, b.Bag, b.Witness, b.Image = nil, nil, nil, nil
	return reflect.DeepEqual(a, b)
}

// playAlike plays what bytes say, and asserts that a fleet answers as its parts do, and has what they have at the end.
func playAlike(t *testing.T, in []byte, ticks int) *parts {
	t.Helper()
	p, steps, want := script(t, in, ticks)
	s := staged(t, p.c)
	for i, step := range steps {
		if got := s.do(step); !sameAnswer(got, want[i]) {
			t.Fatalf("%+v: the step %d, %+v:\n%+v\nwant\n%+v", p.c, i+1, step, got, want[i])
		}
	}
	for _, look := range looks(p.c) {
		if got, want := s.do(look), p.do(look); !sameAnswer(got, want) {
			t.Fatalf("%+v: at the end, %+v:\n%+v\nwant\n%+v", p.c, look, got, want)
		}
	}
	return p
}

// looks are steps that see all there is.
func looks(c api.Config) []api.Step {
	list := []api.Step{{Kind: api.StepBag}, {Kind: api.StepWitness}}
	for me := range c.Replicas {
		list = append(list, api.Step{Kind: api.StepSee, Replica: me}, api.Step{Kind: api.StepImage, Replica: me})
	}
	return list
}

// Whatever happens, with frames from nowhere too, a fleet is its replicas, to which just the inputs that last have come:
// one that is restarted is as it was ahead of the failing step, or behind it.
func TestP2302AsItsParts(t *testing.T) {
	d := dice(2302)
	downs, saved, effects := 0, 0, 0
	for range 160 {
		p := playAlike(t, d.bytes(2500), 0)
		downs, saved, effects = downs+p.downs, saved+p.saved, effects+len(p.effects)
	}
	if downs < 700 || saved < 30 || effects < 1500 {
		t.Errorf("%d powers have failed, %d with effects, of %d: too little is played", downs, saved, effects)
	}
}

// The same where journals are full in the midst of it.
func TestP2302AsItsPartsFull(t *testing.T) {
	d := dice(2306)
	full := 0
	for range 12 {
		p := playAlike(t, d.bytes(1500), 2000+d.roll(48))
		for _, one := range p.all {
			if one.next == 2048 {
				full++
			}
		}
	}
	if full < 10 {
		t.Errorf("%d journals were full: too little is played", full)
	}
}

// Run answers what Do does on a fleet that is new, step by step, each time.
func TestP2303AsDo(t *testing.T) {
	d := dice(2303)
	for range 40 {
		p, steps, want := script(t, d.bytes(700), 0)
		n := 0
		for _, s := range steps {
			if s.Kind >= api.StepSee && s.Kind <= api.StepWitness || s.Kind == api.StepImage {
				n++
			}
		}
		for range 2 {
			got, e := fleet.Run(p.c, steps)
			if n > api.MaxLooks {
				if e != api.ErrLong || len(got) != 0 {
					t.Fatalf("%d looks: %d", n, e)
				}
				continue
			}
			if e != api.OK || !slices.EqualFunc(got, want, sameAnswer) {
				t.Fatalf("Run: %d\n%+v\nwant\n%+v", e, got, want)
			}
		}
	}
}

func FuzzPlay(f *testing.F) {
	f.Add([]byte{})
	f.Add([]byte("\x00\x01\x01\x09\x03\x01\x01\x01\x03\x20\x00\x10\x05\x00\x01\x00\x00\x01\x00\x06\x03"))
	f.Add(bytes.Repeat([]byte{0, 17, 1, 3, 13, 200, 77, 19}, 60))
	f.Fuzz(func(t *testing.T, in []byte) { playAlike(t, in, 0) })
}
