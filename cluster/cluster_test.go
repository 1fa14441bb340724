package cluster_test

import (
	"math"
	"reflect"
	"slices"
	"testing"

	"sluice/api"
	"sluice/cluster"
	"sluice/names"
	"sluice/replica"
)

// bounds tells of each number of a config its place, and the least and the greatest that it may be.
func bounds(c *api.Config) []struct {
	at          *int
	least, most int
} {
	return []struct {
		at          *int
		least, most int
	}{
		{&c.Replicas, 2, 16}, {&c.Window, 1, 16}, {&c.Resend, 1, 1000}, {&c.Timeout, 1, 1000}, {&c.Queue, 1, 32},
		{&c.Cache, 1, 16}, {&c.Counters, 1, 4}, {&c.Holds, 0, 16}, {&c.Sessions, 1, 64}, {&c.Bag, 1, 1024},
	}
}

func TestP1501Bounds(t *testing.T) {
	for i := range bounds(&api.Config{}) {
		c := config()
		b := bounds(&c)[i]
		for _, n := range []int{b.least - 1, b.most + 1, -1, math.MinInt64, math.MaxInt64} {
			*b.at = n
			if all, e := cluster.New(c); all != nil || e != api.ErrArg {
				t.Errorf("New(%+v): %v, %d", c, all, e)
			}
			if l, e := cluster.Run(c, []api.Step{{Kind: api.StepBag}}); len(l) != 0 || e != api.ErrArg {
				t.Errorf("Run(%+v): %v, %d", c, l, e)
			}
		}
		for _, n := range []int{b.least, b.most} {
			*b.at = n
			made(t, c)
			if l, e := cluster.Run(c, []api.Step{{Kind: api.StepBag}}); len(l) != 1 || e != api.OK {
				t.Errorf("Run(%+v): %v, %d", c, l, e)
			}
		}
	}
	if all, e := cluster.New(api.Config{}); all != nil || e != api.ErrArg {
		t.Errorf("New of no numbers: %v, %d", all, e)
	}
}

// All replicas are there, each by its number, and nothing has happened.
func TestP1501Fresh(t *testing.T) {
	for _, n := range []int{2, 3, 16} {
		c := config()
		c.Replicas = n
		s := staged(t, c)
		for me := range n {
			r, _ := replica.New(c, me)
			if got := s.see(me); !reflect.DeepEqual(got, r.See()) {
				t.Errorf("the replica %d of %d: %+v", me, n, got)
			}
		}
		if bag, witness := s.bag(), s.witness(); len(bag)+len(witness) != 0 {
			t.Errorf("%d replicas: the bag %v, the witness %v", n, bag, witness)
		}
		s.wantAnswer("the replica behind the last one", s.do(api.Step{Kind: api.StepSee, Replica: n}), api.ErrReplica)
	}
}

// Each replica has its own number: so a name is at home where its hash says, and a session where its number says.
func TestP1501ByNumbers(t *testing.T) {
	c := config()
	c.Replicas, c.Sessions = 5, 10
	for _, name := range []string{"a", "b", "c", "d", "i", "k", "q"} {
		s := staged(t, c)
		for me := range c.Replicas {
			a := s.do(api.Step{Kind: api.StepCall, Replica: me, Call: id(5+me, 1), Op: op(api.OpRead, name)})
			if at := names.Home(name, 5); me == at {
				s.wantAnswer("at home", a, api.OK, reply(id(5+me, 1), api.ErrNone, 0))
			} else {
				s.wantAnswer("elsewhere", a, api.OK)
			}
		}
		if n := len(s.bag()); n != 4 {
			t.Errorf("%q: %d letters", name, n)
		}
	}
}

// The bag has room for just Bag letters; what is sent beyond that is lost, and nothing else is.
func TestP1502FullBag(t *testing.T) {
	for _, room := range []int{1, 2, 3} {
		c := config()
		c.Replicas, c.Bag = 4, room
		s := staged(t, c)
		me := names.Home("k", 4)
		s.wantAnswer("OpCreate", s.call(me, 1, api.OpCreate, 10, 4), api.OK, reply(id(me, 1), api.OK, 0))
		s.wantAnswer("OpRecap", s.call(me, 2, api.OpRecap, 20), api.OK) // a MsgMark to each of three
		bag := s.bag()
		if len(bag) != room {
			t.Fatalf("%d letters in a bag for %d", len(bag), room)
		}
		var peers []int
		for peer := range 4 {
			if peer != me {
				peers = append(peers, peer)
			}
		}
		for i, l := range bag {
			if l.From != me || l.To != peers[i] {
				t.Errorf("the letter at %d is from %d to %d", i, l.From, l.To)
			}
		}
		if under := s.see(me).Under; len(under[peers[0]]) != 1 || len(under[peers[2]]) != 1 {
			t.Errorf("a letter that was lost is not under way any more: %+v", under)
		}
		s.wantAnswer("Double", s.do(api.Step{Kind: api.StepDouble}), api.ErrLost)
		s.wantAnswer("Drop", s.do(api.Step{Kind: api.StepDrop}), api.OK)
		if room > 1 {
			s.wantAnswer("Double", s.do(api.Step{Kind: api.StepDouble}), api.OK)
		}
	}
}

var far = []int{math.MinInt64, -1 << 40, -1, 2, 16, math.MaxInt64}

// A kind that is none, a fleet's too, is refused as such, wherever it is said to be.
func TestP1502NoStep(t *testing.T) {
	s := staged(t, config())
	before := s.scene()
	for _, kind := range []int{0, -1, -7, 12, 13, 14, 15, 16, 17, 1 << 20, math.MinInt64, math.MaxInt64} {
		for _, me := range append([]int{0, 1}, far...) {
			s.wantAnswer("no kind", s.do(api.Step{Kind: kind, Replica: me, I: -1, Data: []byte{1}}), api.ErrStep)
		}
	}
	if after := s.scene(); !reflect.DeepEqual(before, after) {
		t.Errorf("something has happened: %+v", after)
	}
}

// The steps that name a replica are refused, if it is none, ahead of all else; the others don't look at it.
func TestP1502NoReplica(t *testing.T) {
	s := staged(t, config())
	before := s.scene()
	for _, me := range far {
		for _, kind := range []int{api.StepCall, api.StepTick, api.StepFrame, api.StepRequest, api.StepSee} {
			s.wantAnswer("no replica", s.do(api.Step{Kind: kind, Replica: me, Call: id(9, -1), Data: []byte{1}}), api.ErrReplica)
		}
		for _, kind := range []int{api.StepDeliver, api.StepDrop, api.StepDouble, api.StepMove} {
			s.wantAnswer("an empty bag", s.do(api.Step{Kind: kind, Replica: me}), api.ErrIndex)
		}
		for _, kind := range []int{api.StepBag, api.StepWitness} {
			s.wantAnswer("nothing yet", s.do(api.Step{Kind: kind, Replica: me}), api.OK)
		}
	}
	if after := s.scene(); !reflect.DeepEqual(before, after) {
		t.Errorf("something has happened: %+v", after)
	}
}

// Effects have the number of their step; every step counts, refused ones and looks too.
func TestP1502StepsCount(t *testing.T) {
	s := staged(t, config())
	h, o := home()
	for _, refused := range []api.Step{
		{}, {Kind: 13}, {Kind: api.StepTick, Replica: 2}, {Kind: api.StepDeliver}, {Kind: api.StepMove}, {Kind: api.StepDrop}, {Kind: api.StepDouble},
		{Kind: api.StepCall, Replica: h, Call: id(o, 1)}, {Kind: api.StepCall, Replica: h, Call: id(h, 2)}, {Kind: api.StepFrame}, {Kind: api.StepRequest},
	} {
		if a := s.do(refused); a.Err == api.OK {
			t.Errorf("%+v: %+v", refused, a)
		}
	}
	for _, kind := range []int{api.StepSee, api.StepBag, api.StepWitness, api.StepTick} {
		s.wantAnswerErr(s.do(api.Step{Kind: kind}), api.OK)
	}
	if s.step != 15 {
		t.Fatalf("%d steps", s.step)
	}
	s.call(h, 1, api.OpCreate, 10, 4)
	s.call(h, 2, api.OpDec, 5)
	s.call(h, 3, api.OpDec, 4)
	s.wantWitness("four steps", effect(16, id(h, 1), op(api.OpCreate, "k", 10, 4), api.OK, 0), effect(18, id(h, 3), op(api.OpDec, "k", 4), api.OK, 0))
	s.call(h, 4, api.OpInc, 1)
	s.wantWitness("six steps", effect(16, id(h, 1), op(api.OpCreate, "k", 10, 4), api.OK, 0), effect(18, id(h, 3), op(api.OpDec, "k", 4), api.OK, 0), effect(20, id(h, 4), op(api.OpInc, "k", 1), api.OK, 0))
}

func (s *stage) wantAnswerErr(a api.Answer, e api.Errno) {
	s.t.Helper()
	if a.Err != e {
		s.t.Errorf("%+v; want %d", a, e)
	}
}

// StepCall: the replica's own errors, in their order, and its replies.
func TestP1502Call(t *testing.T) {
	s := staged(t, config())
	h, o := home()
	for _, b := range []struct {
		me   int
		call api.Call
		e    api.Errno
	}{
		{h, id(o, 1), api.ErrSession}, {h, id(4+h, 1), api.ErrSession}, {h, id(-1, 1), api.ErrSession}, {h, id(h, 0), api.ErrArg},
		{h, id(h, -1), api.ErrArg}, {h, id(h, api.MaxRequest+1), api.ErrArg}, {h, id(h, 2), api.ErrOrder}, {o, id(h, 1), api.ErrSession},
	} {
		s.wantAnswer("a call that is none", s.do(api.Step{Kind: api.StepCall, Replica: b.me, Call: b.call, Op: op(api.OpRead, "k")}), b.e)
	}
	s.wantAnswer("no op", s.call(h, 1, 12, 1), api.OK, reply(id(h, 1), api.ErrArg, 0))
	s.wantAnswer("no counter", s.call(h, 2, api.OpRead), api.OK, reply(id(h, 2), api.ErrNone, 0))
	s.wantAnswer("asked", s.call(o, 1, api.OpRead), api.OK)
	s.wantAnswer("asked again", s.call(o, 1, api.OpRead), api.ErrPending)
	s.wantAnswer("another session", s.do(api.Step{Kind: api.StepCall, Replica: h, Call: id(h+2, 1), Op: op(api.OpCreate, "k", 7, 7)}), api.OK, reply(id(h+2, 1), api.OK, 0))
}

// StepRequest: the same as bytes; what is no request is a drop.
func TestP1502Request(t *testing.T) {
	s := staged(t, config())
	h, o := home()
	request := func(me int, c api.Call, o api.Op) api.Answer {
		return s.do(api.Step{Kind: api.StepRequest, Replica: me, Data: requested(t, c, o)})
	}
	s.wantAnswer("OpCreate", request(h, id(h, 1), op(api.OpCreate, "k", 10, 4)), api.OK, reply(id(h, 1), api.OK, 0))
	s.wantAnswer("OpRead", request(h, id(h, 2), op(api.OpRead, "k")), api.OK, reply(id(h, 2), api.OK, 4))
	s.wantAnswer("another one's session", request(h, id(o, 1), op(api.OpRead, "k")), api.ErrSession)
	s.wantAnswer("once more", request(h, id(h, 1), op(api.OpRead, "k")), api.OK, reply(id(h, 1), api.OK, 0))
	for _, data := range [][]byte{nil, {}, {1}, []byte("request"), append(requested(t, id(h, 3), op(api.OpRead, "k")), 0)} {
		s.wantAnswer("bytes", s.do(api.Step{Kind: api.StepRequest, Replica: h, Data: data}), api.ErrWire)
	}
	if a, b := s.see(h).Drops, s.see(o).Drops; a != 5 || b != 0 {
		t.Errorf("%d and %d drops", a, b)
	}
	s.wantWitness("requests", effect(1, id(h, 1), op(api.OpCreate, "k", 10, 4), api.OK, 0), effect(2, id(h, 2), op(api.OpRead, "k"), api.OK, 4))
}

// StepFrame: a frame of the bag does the same where it is handed in, and stays in the bag; elsewhere it is refused.
func TestP1502Frame(t *testing.T) {
	s := staged(t, config())
	h, o := home()
	s.call(o, 1, api.OpRead)
	bag := s.bag()
	if len(bag) != 1 || bag[0].From != o || bag[0].To != h {
		t.Fatalf("the bag %+v", bag)
	}
	s.wantAnswer("at its sender", s.do(api.Step{Kind: api.StepFrame, Replica: o, Data: bag[0].Data}), api.ErrLink)
	s.wantAnswer("at home", s.do(api.Step{Kind: api.StepFrame, Replica: h, Data: bag[0].Data}), api.OK)
	s.wantWitness("at home", effect(4, id(o, 1), op(api.OpRead, "k"), api.ErrNone, 0))
	if now := s.bag(); len(now) < 2 || !sameLetters(now[:1], bag) || now[1].To != o {
		t.Errorf("the bag %+v", now)
	}
	s.wantAnswer("once more, by the bag", s.deliver(0), api.OK)
	s.wantWitness("once more", effect(4, id(o, 1), op(api.OpRead, "k"), api.ErrNone, 0))
	payload := sealed(t, api.Segment{From: o, To: o, Ack: 0})
	s.wantAnswer("from itself", s.do(api.Step{Kind: api.StepFrame, Replica: o, Data: payload}), api.ErrLink)
	spoiled := slices.Clone(bag[0].Data)
	spoiled[len(spoiled)-1] ^= 1
	s.wantAnswer("a wrong sum", s.do(api.Step{Kind: api.StepFrame, Replica: h, Data: spoiled}), api.ErrSum)
	if a, b := s.see(h).Drops, s.see(o).Drops; a != 1 || b != 2 {
		t.Errorf("%d and %d drops", a, b)
	}
}

// StepDeliver: the letter is taken out, and its replica takes it; what that sends goes behind all others.
func TestP1502Deliver(t *testing.T) {
	s := staged(t, config())
	h, o := home()
	s.call(o, 1, api.OpRead)
	s.call(o, 2, api.OpInc, 1)
	bag := s.bag()
	if len(bag) != 2 {
		t.Fatalf("the bag %+v", bag)
	}
	for _, i := range []int{-1, 2, 3, math.MinInt64, math.MaxInt64} {
		s.wantAnswer("no such letter", s.deliver(i), api.ErrIndex)
	}
	if now := s.bag(); !sameLetters(now, bag) {
		t.Errorf("the bag %+v", now)
	}
	s.wantAnswer("the second one", s.deliver(1), api.OK)
	now := s.bag()
	if len(now) != 2 || !sameLetters(now[:1], bag[:1]) || now[1].From != h || now[1].To != o {
		t.Errorf("the bag %+v", now)
	}
	s.wantAnswer("the first one", s.deliver(0), api.OK)
	step := s.step
	s.wantWitness("both are in turn", effect(step, id(o, 1), op(api.OpRead, "k"), api.ErrNone, 0), effect(step, id(o, 2), op(api.OpInc, "k", 1), api.ErrNone, 0))
	s.wantReplies("both are answered", s.deliverAll(), reply(id(o, 1), api.ErrNone, 0), reply(id(o, 2), api.ErrNone, 0))
}

// StepDrop, StepDouble, StepMove: the bag alone.
func TestP1502Bag(t *testing.T) {
	c := config()
	c.Window, c.Bag = 4, 5
	s := staged(t, c)
	_, o := home()
	for n := range 3 {
		s.call(o, 1+n, api.OpInc, 1+n)
	}
	first := s.bag()
	if len(first) != 3 {
		t.Fatalf("the bag %+v", first)
	}
	sights := s.sights()
	for _, b := range []struct {
		step api.Step
		e    api.Errno
		want []int
	}{
		{api.Step{Kind: api.StepMove, I: 0, J: 2}, api.OK, []int{1, 2, 0}},
		{api.Step{Kind: api.StepMove, I: 2, J: 1}, api.OK, []int{1, 0, 2}},
		{api.Step{Kind: api.StepMove, I: 0, J: 3}, api.ErrIndex, []int{1, 0, 2}},
		{api.Step{Kind: api.StepMove, I: -1, J: 0}, api.ErrIndex, []int{1, 0, 2}},
		{api.Step{Kind: api.StepMove, I: 3, J: 0}, api.ErrIndex, []int{1, 0, 2}},
		{api.Step{Kind: api.StepDouble, I: 1}, api.OK, []int{1, 0, 2, 0}},
		{api.Step{Kind: api.StepDouble, I: 4}, api.ErrIndex, []int{1, 0, 2, 0}},
		{api.Step{Kind: api.StepDouble, I: 0}, api.OK, []int{1, 0, 2, 0, 1}},
		{api.Step{Kind: api.StepDouble, I: 0}, api.ErrLost, []int{1, 0, 2, 0, 1}},
		{api.Step{Kind: api.StepDouble, I: 5}, api.ErrIndex, []int{1, 0, 2, 0, 1}},
		{api.Step{Kind: api.StepDrop, I: 5}, api.ErrIndex, []int{1, 0, 2, 0, 1}},
		{api.Step{Kind: api.StepDrop, I: -1}, api.ErrIndex, []int{1, 0, 2, 0, 1}},
		{api.Step{Kind: api.StepDrop, I: 2}, api.OK, []int{1, 0, 0, 1}},
		{api.Step{Kind: api.StepDrop, I: 3, J: 9, Replica: 9}, api.OK, []int{1, 0, 0}},
		{api.Step{Kind: api.StepMove, I: 2, J: 0}, api.OK, []int{0, 1, 0}},
	} {
		s.wantAnswer("the bag", s.do(b.step), b.e)
		var want []api.Letter
		for _, i := range b.want {
			want = append(want, first[i])
		}
		if got := s.bag(); !sameLetters(got, want) {
			t.Errorf("behind %+v: %+v\nwant %+v", b.step, got, want)
		}
	}
	if now := s.sights(); !reflect.DeepEqual(now, sights) {
		t.Errorf("a replica has seen it: %+v", now)
	}
}

// StepTick: the clock of one replica alone; what it sends goes into the bag, what it answers is told.
func TestP1502Tick(t *testing.T) {
	c := config()
	c.Timeout = 3
	s := staged(t, c)
	h, o := home()
	s.call(h, 1, api.OpCreate, 10, 4)
	s.call(h, 2, api.OpHold, 3, 2)
	s.wantAnswer("the other one's", s.tick(o), api.OK)
	s.wantAnswer("the first", s.tick(h), api.OK)
	s.wantKinds("a digest", api.MsgDigest)
	s.call(o, 1, api.OpCommit, 16+h)
	if a, b := s.see(h).Now, s.see(o).Now; a != 1 || b != 1 {
		t.Errorf("the clocks %d, %d", a, b)
	}
	s.wantAnswer("the second", s.tick(h), api.OK)
	w := s.witness()
	if len(w) != 3 || w[2] != effect(s.step-1, id(-1, 0), op(api.OpExpire, "k", 16+h), api.OK, 0) {
		t.Errorf("the witness %+v", w)
	}
	s.wantAnswer("the other one's", s.tick(o), api.OK)
	s.wantAnswer("the other one's", s.tick(o), api.OK)
	s.wantAnswer("too late", s.tick(o), api.OK, reply(id(o, 1), api.ErrTimeout, 0))
}

// A look fills its own field alone, and changes nothing.
func TestP1502Looks(t *testing.T) {
	s := staged(t, config())
	h, o := home()
	s.call(h, 1, api.OpCreate, 10, 4)
	s.call(o, 1, api.OpRead)
	see := s.do(api.Step{Kind: api.StepSee, Replica: h})
	if len(see.Sight.Stocks) != 1 || !reflect.DeepEqual(see, api.Answer{Sight: see.Sight}) {
		t.Errorf("StepSee: %+v", see)
	}
	bag := s.do(api.Step{Kind: api.StepBag})
	if len(bag.Bag) != 1 || !reflect.DeepEqual(bag, api.Answer{Bag: bag.Bag}) {
		t.Errorf("StepBag: %+v", bag)
	}
	witness := s.do(api.Step{Kind: api.StepWitness})
	if len(witness.Witness) != 1 || !reflect.DeepEqual(witness, api.Answer{Witness: witness.Witness}) {
		t.Errorf("StepWitness: %+v", witness)
	}
	if one, two := s.scene(), s.scene(); !reflect.DeepEqual(one, two) {
		t.Errorf("looking changes something: %+v, %+v", one, two)
	}
}

func TestP1503TooLong(t *testing.T) {
	for _, n := range []int{0, 1, api.MaxSteps} {
		if l, e := cluster.Run(config(), make([]api.Step, n)); e != api.OK || len(l) != n {
			t.Errorf("%d steps: %d, %d", n, len(l), e)
		}
	}
	if l, e := cluster.Run(config(), nil); e != api.OK || len(l) != 0 {
		t.Errorf("no steps: %v, %d", l, e)
	}
	if l, e := cluster.Run(config(), make([]api.Step, api.MaxSteps+1)); e != api.ErrLong || len(l) != 0 {
		t.Errorf("one too many: %d, %d", len(l), e)
	}
	if l, e := cluster.Run(api.Config{}, make([]api.Step, api.MaxSteps+1)); e != api.ErrArg || len(l) != 0 {
		t.Errorf("no config, and one too many: %d, %d", len(l), e)
	}
}

// The looks are counted, whichever they are, refused ones too.
func TestP1503Looks(t *testing.T) {
	kinds := []int{api.StepSee, api.StepBag, api.StepWitness, api.StepImage}
	script := func(looks int, kind func(i int) int) []api.Step {
		var steps []api.Step
		for i := range looks {
			steps = append(steps, api.Step{Kind: api.StepTick}, api.Step{Kind: kind(i), Replica: i % 3}, api.Step{Kind: api.StepRequest})
		}
		return steps
	}
	sorts := []func(i int) int{func(i int) int { return kinds[i%4] }}
	for _, kind := range kinds {
		sorts = append(sorts, func(int) int { return kind })
	}
	for _, sort := range sorts {
		if l, e := cluster.Run(config(), script(api.MaxLooks, sort)); e != api.OK || len(l) != 3*api.MaxLooks {
			t.Errorf("as many looks as may be: %d, %d", len(l), e)
		}
		if l, e := cluster.Run(config(), script(api.MaxLooks+1, sort)); e != api.ErrLong || len(l) != 0 {
			t.Errorf("one look more than may be: %d, %d", len(l), e)
		}
	}
	for _, kind := range []int{api.StepCall, api.StepDeliver, api.StepDrop, api.StepDouble, api.StepMove, api.StepTick, api.StepFrame, api.StepRequest, api.StepCrash, api.StepArm, api.StepRestart, 0, 16} {
		if l, e := cluster.Run(config(), script(200, func(int) int { return kind })); e != api.OK || len(l) != 600 {
			t.Errorf("steps of the kind %d are no looks: %d, %d", kind, len(l), e)
		}
	}
	s := staged(t, config())
	for range api.MaxLooks + 1 {
		s.wantAnswerErr(s.do(api.Step{Kind: api.StepBag}), api.OK)
	}
}
