package cluster_test

import (
	"bytes"
	"reflect"
	"slices"
	"testing"

	"sluice/api"
	"sluice/cluster"
	"sluice/replica"
	"sluice/wire"
)

// parts are replicas, and a list of letters that is new at each change: what a cluster is made of, put together plainly.
type parts struct {
	c        api.Config
	replicas []*replica.Replica
	letters  []api.Letter
	step     int
	effects  []api.Effect
}

func partsOf(c api.Config) *parts {
	p := &parts{c: c}
	for me := range c.Replicas {
		r, _ := replica.New(c, me)
		p.replicas = append(p.replicas, r)
	}
	return p
}

// do takes a step as chapter 15 says, one thing behind the other.
func (p *parts) do(s api.Step) api.Answer {
	p.step++
	switch s.Kind {
	case api.StepDeliver, api.StepDrop, api.StepDouble, api.StepMove:
		return p.doBag(s)
	case api.StepBag:
		return api.Answer{Bag: slices.Clone(p.letters)}
	case api.StepWitness:
		return api.Answer{Witness: slices.Clone(p.effects)}
	case api.StepCall, api.StepTick, api.StepFrame, api.StepRequest, api.StepSee:
		if s.Replica < 0 || s.Replica >= p.c.Replicas {
			return api.Answer{Err: api.ErrReplica}
		}
		return p.doReplica(p.replicas[s.Replica], s)
	}
	return api.Answer{Err: api.ErrStep}
}

func (p *parts) doReplica(r *replica.Replica, s api.Step) api.Answer {
	var acts api.Acts
	var e api.Errno
	switch s.Kind {
	case api.StepSee:
		return api.Answer{Sight: r.See()}
	case api.StepCall:
		acts, e = r.Call(s.Call, s.Op)
	case api.StepTick:
		acts = r.Tick()
	case api.StepFrame:
		acts, e = r.Frame(s.Data)
	case api.StepRequest:
		acts, e = r.Request(s.Data)
	}
	for _, l := range acts.Frames {
		p.send(l)
	}
	for _, f := range acts.Effects {
		p.effects = append(slices.Clone(p.effects), api.Effect{Step: p.step, Call: f.Call, Op: f.Op, Err: f.Err, Value: f.Value})
	}
	return api.Answer{Err: e, Replies: acts.Replies}
}

func (p *parts) send(l api.Letter) api.Errno {
	if len(p.letters) >= p.c.Bag {
		return api.ErrLost
	}
	p.letters = append(slices.Clone(p.letters), l)
	return api.OK
}

func (p *parts) doBag(s api.Step) api.Answer {
	n := len(p.letters)
	if s.I < 0 || s.I >= n || s.Kind == api.StepMove && (s.J < 0 || s.J >= n) {
		return api.Answer{Err: api.ErrIndex}
	}
	l := p.letters[s.I]
	if s.Kind == api.StepDouble {
		return api.Answer{Err: p.send(l)}
	}
	rest := slices.Concat(p.letters[:s.I], p.letters[s.I+1:])
	p.letters = rest
	switch s.Kind {
	case api.StepMove:
		p.letters = slices.Concat(rest[:s.J], []api.Letter{l}, rest[s.J:])
	case api.StepDeliver:
		return p.doReplica(p.replicas[l.To], api.Step{Kind: api.StepFrame, Data: l.Data})
	}
	return api.Answer{}
}

// source tells bytes one by one, and 0 behind their end.
type source []byte

func (s *source) next(n int) int {
	if len(*s) == 0 {
		return 0
	}
	b := int((*s)[0])
	*s = (*s)[1:]
	return b % n
}

func (s *source) take(n int) []byte {
	n = min(n, len(*s))
	b := (*s)[:n:n]
	*s = (*s)[n:]
	return b
}

// player makes steps of bytes, some of them by what the parts are like then.
type player struct {
	*source
	p   *parts
	ids map[int]int // the last id that each session was given
}

var playNames = []string{"a", "b", "c", "d", "i", "k", "q"}

func (g *player) index() int { return g.next(len(g.p.letters)+2) - 1 }

func (g *player) replica() int {
	if g.next(30) == 0 {
		return []int{-1, g.p.c.Replicas, 1 << 40}[g.next(3)]
	}
	return g.next(g.p.c.Replicas)
}

func (g *player) call(me int) api.Call {
	session := me + g.p.c.Replicas*g.next(3)
	if g.next(12) == 0 {
		return id(g.next(8)-1, g.next(4))
	}
	g.ids[session]++
	return id(session, g.ids[session])
}

func (g *player) op() api.Op {
	amounts := []int{0, 1, 1, 2, 3, 5, 8, 10, 12, 16, 17, 18, 20, 33, api.MaxCap, -1}
	o := op(1+g.next(12), playNames[g.next(1+g.next(len(playNames)))], amounts[g.next(len(amounts))])
	switch o.Kind {
	case api.OpCreate:
		o.A, o.B = 4+g.next(20), g.next(9)
	case api.OpHold, api.OpTake:
		o.B = 1 + g.next(6)
	case api.OpRead, api.OpLook:
		o.A = 0
	}
	return o
}

// frame is bytes, a frame of the bag, or one from nowhere that opens.
func (g *player) frame(t *testing.T, me int) []byte {
	switch x := g.next(4); {
	case x == 0:
		return g.take(g.next(12))
	case x == 1 && len(g.p.letters) > 0:
		return g.p.letters[g.next(len(g.p.letters))].Data
	}
	from := g.next(g.p.c.Replicas)
	s := api.Segment{From: from, To: me, Ack: g.next(2)}
	if me >= 0 && me < g.p.c.Replicas && from != me {
		sight := g.p.replicas[me].See()
		s.Seq, s.Data = sight.Next[from]+g.next(3)/2, g.message()
	}
	if me < 0 || me >= g.p.c.Replicas {
		s.To = 0
	}
	return sealed(t, s)
}

func (g *player) message() []byte {
	m := api.Msg{Kind: 3 + g.next(7), Name: playNames[g.next(len(playNames))], Cap: 5 + g.next(9), Recaps: g.next(2)}
	if m.Kind <= api.MsgOver {
		m.Epoch = epochOf(1+g.next(4), g.next(g.p.c.Replicas))
	}
	switch m.Kind {
	case api.MsgOver:
		m.Over = epochOf(1+g.next(5), g.next(g.p.c.Replicas))
	case api.MsgYield, api.MsgGrant, api.MsgAbort, api.MsgGive, api.MsgWant:
		m.Rights = rights(g.next(5), g.next(5))
	}
	data, e := wire.Encode(m)
	if e != api.OK {
		return []byte{1, 2}
	}
	return data
}

// step is any one; honest ones hand in no frame that opens.
func (g *player) step(t *testing.T, honest bool) api.Step {
	me := g.replica()
	s := api.Step{Kind: g.next(22), Replica: me, I: g.index(), J: g.index()}
	switch {
	case s.Kind > 18:
		s.Kind = api.StepDeliver
	case s.Kind > 15:
		s.Kind = api.StepCall
	}
	switch s.Kind {
	case api.StepCall:
		s.Call, s.Op = g.call(me), g.op()
	case api.StepRequest:
		s.Data = g.take(g.next(9))
		if g.next(3) > 0 {
			if data, e := wire.EncodeRequest(g.call(me), g.op()); e == api.OK {
				s.Data = data
			}
		}
	case api.StepFrame:
		if honest {
			s.Data = g.take(g.next(12))
		} else {
			s.Data = g.frame(t, me)
		}
	}
	return s
}

func (g *player) config() api.Config {
	replicas := 2 + g.next(4)
	return api.Config{
		Replicas: replicas, Window: 1 + g.next(3), Resend: 1 + g.next(3), Timeout: 1 + g.next(12), Queue: 1 + g.next(4), Cache: 1 + g.next(3),
		Counters: 1 + g.next(3), Holds: g.next(3), Sessions: 1 + g.next(3*replicas), Bag: 1 + g.next(40),
	}
}

// script is the config and the steps that bytes say, and what the parts answer.
func script(t *testing.T, in []byte) (api.Config, []api.Step, []api.Answer) {
	t.Helper()
	rest := source(bytes.Clone(in))
	g := &player{source: &rest, ids: map[int]int{}}
	c := g.config()
	g.p = partsOf(c)
	honest := g.next(2) == 0
	var steps []api.Step
	var answers []api.Answer
	for len(rest) > 0 {
		s := g.step(t, honest)
		steps = append(steps, s)
		answers = append(answers, g.p.do(s))
	}
	return c, steps, answers
}

// sameAnswer holds two answers against each other; no list is the same as an empty one.
func sameAnswer(a, b api.Answer) bool {
	if len(a.Replies)+len(b.Replies) > 0 && !reflect.DeepEqual(a.Replies, b.Replies) || !sameLetters(a.Bag, b.Bag) || !slices.Equal(a.Witness, b.Witness) {
		return false
	}
	a.Replies, a.Bag, a.Witness = nil, nil, nil
	b.Replies, b.Bag, b.Witness = nil, nil, nil
	return reflect.DeepEqual(a, b)
}

// playAlike plays what bytes say, and asserts that a cluster answers as its parts do.
func playAlike(t *testing.T, in []byte) {
	t.Helper()
	c, steps, want := script(t, in)
	all := made(t, c)
	for i, s := range steps {
		if got := all.Do(s); !sameAnswer(got, want[i]) {
			t.Fatalf("%+v: the step %d, %+v:\n%+v\nwant\n%+v", c, i+1, s, got, want[i])
		}
	}
}

func TestP1502AsItsParts(t *testing.T) {
	d := dice(1502)
	for range 400 {
		playAlike(t, d.bytes(3000))
	}
}

// Run answers what Do does on a cluster that is new, step by step, each time.
func TestP1503AsDo(t *testing.T) {
	d := dice(1503)
	for range 60 {
		c, steps, want := script(t, d.bytes(900))
		looks := 0
		for _, s := range steps {
			if s.Kind >= api.StepSee && s.Kind <= api.StepWitness || s.Kind == api.StepImage {
				looks++
			}
		}
		for range 2 {
			got, e := cluster.Run(c, steps)
			if looks > api.MaxLooks {
				if e != api.ErrLong || len(got) != 0 {
					t.Fatalf("%d looks: %d", looks, e)
				}
				continue
			}
			if e != api.OK || !slices.EqualFunc(got, want, sameAnswer) {
				t.Fatalf("Run: %d\n%+v\nwant\n%+v", e, got, want)
			}
		}
	}
}

func FuzzPlay(f *testing.F) {
	f.Add([]byte{})
	f.Add([]byte("\x00\x01\x01\x09\x03\x01\x01\x01\x03\x20\x00\x10\x05\x00\x01\x00\x00\x01\x00\x06\x03"))
	f.Add(bytes.Repeat([]byte{0, 17, 1, 3, 9, 200, 77, 19}, 60))
	f.Fuzz(playAlike)
}
