package fleet_test

import (
	"math"
	"reflect"
	"slices"
	"testing"

	"sluice/api"
	"sluice/fleet"
	"sluice/names"
	"sluice/replica"
)

// bounds tells of each number of a config its place, and the least and the greatest that it may be.
func bounds(c *api.Config) []struct {
	at          *int
	least, most int
} {
	return []struct {
		at          *int
		least, most int
	}{
		{&c.Replicas, 2, 16}, {&c.Window, 1, 16}, {&c.Resend, 1, 1000}, {&c.Timeout, 1, 1000}, {&c.Queue, 1, 32},
		{&c.Cache, 1, 16}, {&c.Counters, 1, 4}, {&c.Holds, 0, 16}, {&c.Sessions, 1, 64}, {&c.Bag, 1, 1024},
	}
}

func TestP2301Bounds(t *testing.T) {
	one := []api.Step{{Kind: api.StepBag}}
	for i := range bounds(&api.Config{}) {
		c := config()
		b := bounds(&c)[i]
		for _, n := range []int{b.least - 1, b.most + 1, -1, math.MinInt64, math.MaxInt64} {
			*b.at = n
			if f, e := fleet.New(c); f != nil || e != api.ErrArg {
				t.Errorf("New(%+v): %v, %d", c, f, e)
			}
			if l, e := fleet.Run(c, one); len(l) != 0 || e != api.ErrArg {
				t.Errorf("Run(%+v): %v, %d", c, l, e)
			}
		}
		for _, n := range []int{b.least, b.most} {
			*b.at = n
			staged(t, c)
			if l, e := fleet.Run(c, one); len(l) != 1 || e != api.OK {
				t.Errorf("Run(%+v): %v, %d", c, l, e)
			}
		}
	}
	if f, e := fleet.New(api.Config{}); f != nil || e != api.ErrArg {
		t.Errorf("New of no numbers: %v, %d", f, e)
	}
}

// All replicas are up, each on a disk of zeros, and nothing has happened.
func TestP2301Fresh(t *testing.T) {
	if fleet.Sectors != 2048 {
		t.Errorf("%d sectors", fleet.Sectors)
	}
	for _, n := range []int{2, 3, 16} {
		c := config()
		c.Replicas = n
		s := staged(t, c)
		for me := range n {
			r, _ := replica.New(c, me)
			s.wantSight("a new one", me, true, r.See())
			s.wantImage("a new one", me)
		}
		if bag, witness := s.bag(), s.witness(); len(bag)+len(witness) != 0 {
			t.Errorf("%d replicas: the bag %v, the witness %v", n, bag, witness)
		}
		s.wantAnswer("the replica behind the last one", s.look(n), api.ErrReplica)
	}
}

// Each replica has its own number: so a name is at home where its hash says, and a session where its number says.
func TestP2301ByNumbers(t *testing.T) {
	c := config()
	c.Replicas, c.Sessions = 5, 10
	for _, name := range []string{"a", "b", "c", "k", "q"} {
		s := staged(t, c)
		for me := range c.Replicas {
			a := s.do(api.Step{Kind: api.StepCall, Replica: me, Call: id(5+me, 1), Op: op(api.OpRead, name)})
			if names.Home(name, 5) == me {
				s.wantAnswer("at home", a, api.OK, reply(id(5+me, 1), api.ErrNone, 0))
			} else {
				s.wantAnswer("elsewhere", a, api.OK)
			}
		}
		if n := len(s.bag()); n != 4 {
			t.Errorf("%q: %d letters", name, n)
		}
	}
}

// The bag has room for just Bag letters; what is sent beyond that is lost, and nothing else is.
func TestP2301Room(t *testing.T) {
	for _, room := range []int{1, 2, 3} {
		c := config()
		c.Replicas, c.Bag = 4, room
		s := staged(t, c)
		me := names.Home("k", 4)
		s.wantAnswer("OpCreate", s.call(me, 1, api.OpCreate, 10, 4), api.OK, reply(id(me, 1), api.OK, 0))
		s.wantAnswer("OpRecap", s.call(me, 2, api.OpRecap, 20), api.OK) // a MsgMark to each of three
		if n := len(s.bag()); n != room {
			t.Errorf("%d letters in a bag for %d", n, room)
		}
		for to, under := range s.see(me).Under {
			if len(under) != 1 && to != me {
				t.Errorf("a letter that was lost is not under way any more: %+v", under)
			}
		}
		s.wantAnswer("Double", s.do(api.Step{Kind: api.StepDouble}), api.ErrLost)
	}
}

var far = []int{math.MinInt64, -1 << 40, -1, 2, 16, math.MaxInt64}

// named are the kinds of steps that name a replica, others those that do not.
var (
	named  = []int{api.StepCall, api.StepTick, api.StepFrame, api.StepRequest, api.StepSee, api.StepCrash, api.StepArm, api.StepRestart, api.StepImage}
	others = []int{api.StepDeliver, api.StepDrop, api.StepDouble, api.StepMove, api.StepBag, api.StepWitness}
)

// A kind that is none is refused as such, wherever it is said to be.
func TestP2302NoStep(t *testing.T) {
	s, _, o := begun(t)
	s.crash(o)
	before := s.view()
	for _, kind := range []int{0, -1, -15, 16, 17, 1 << 20, math.MinInt64, math.MaxInt64} {
		for _, me := range append([]int{0, 1}, far...) {
			s.wantAnswer("no kind", s.do(api.Step{Kind: kind, Replica: me, I: -1, Data: []byte{1}}), api.ErrStep)
		}
	}
	s.wantView("no kind", before)
}

// The steps that name a replica are refused, if it is none, ahead of all else; the others don't look at it.
func TestP2302NoReplica(t *testing.T) {
	s := staged(t, config())
	for _, down := range []bool{false, true} {
		before := s.view()
		for _, me := range far {
			for _, kind := range named {
				long := make([]byte, 9000)
				s.wantAnswer("no replica", s.do(api.Step{Kind: kind, Replica: me, Call: id(9, -1), I: -1, Data: long}), api.ErrReplica)
			}
			for _, kind := range others {
				wanted := api.ErrIndex
				if kind == api.StepBag || kind == api.StepWitness {
					wanted = api.OK
				}
				s.wantAnswer("no replica is looked at", s.do(api.Step{Kind: kind, Replica: me}), wanted)
			}
		}
		s.wantView("no replica", before)
		if !down {
			s.crash(0)
			s.crash(1)
		}
	}
}

// Effects have the number of their step; every step counts, whatever it is and whatever comes of it.
func TestP2302StepsCount(t *testing.T) {
	s := staged(t, config())
	h, o := home()
	kinds := slices.Concat(named, others, []int{0, 16, -1})
	for _, kind := range kinds {
		s.do(api.Step{Kind: kind, Replica: o})
		s.do(api.Step{Kind: kind, Replica: 2})
	}
	if s.step != 2*len(kinds) {
		t.Fatalf("%d steps", s.step)
	}
	at := s.step
	s.call(h, 1, api.OpCreate, 10, 4)
	s.call(h, 2, api.OpDec, 5)
	s.arm(h, 0, 512)
	s.wantAnswer("OpDec", s.call(h, 3, api.OpDec, 4), api.ErrDown)
	s.wantAnswer("OpDec", s.call(h, 3, api.OpDec, 4), api.ErrDown)
	s.restart(h)
	s.call(h, 4, api.OpInc, 1)
	s.wantWitness("seven steps", effect(at+1, id(h, 1), op(api.OpCreate, "k", 10, 4), api.OK, 0),
		effect(at+4, id(h, 3), op(api.OpDec, "k", 4), api.OK, 0), effect(at+7, id(h, 4), op(api.OpInc, "k", 1), api.OK, 0))
}

// StepCall, StepRequest: the replica's own errors, and its replies; each has been written.
func TestP2302Call(t *testing.T) {
	s, h, o := begun(t)
	read := op(api.OpRead, "k")
	dec := op(api.OpDec, "k", 3)
	step := func(kind int, c api.Call, o api.Op) api.Step {
		return api.Step{Kind: kind, Replica: h, Call: c, Op: o, Data: []byte("no part of a call")}
	}
	s.wantAnswer("another one's session", s.do(step(api.StepCall, id(o, 1), read)), api.ErrSession)
	s.wantAnswer("no id", s.do(step(api.StepCall, id(h, 0), read)), api.ErrArg)
	s.wantAnswer("an id too far", s.do(step(api.StepCall, id(h, 3), read)), api.ErrOrder)
	s.wantAnswer("OpDec", s.do(step(api.StepCall, id(h, 2), dec)), api.OK, reply(id(h, 2), api.OK, 0))
	request := api.Step{Kind: api.StepRequest, Replica: h, Data: requested(t, id(h, 3), read), Call: id(9, 9), Op: dec}
	s.wantAnswer("a request", s.do(request), api.OK, reply(id(h, 3), api.OK, 1))
	s.wantAnswer("a request once more", s.do(request), api.OK, reply(id(h, 3), api.OK, 1))
	s.wantAnswer("no request", s.do(api.Step{Kind: api.StepRequest, Replica: h}), api.ErrWire)
	if n := s.see(h).Drops; n != 1 {
		t.Errorf("%d drops", n)
	}
	s.wantWitness("calls", effect(1, id(h, 1), op(api.OpCreate, "k", 10, 4), api.OK, 0),
		effect(5, id(h, 2), dec, api.OK, 0), effect(6, id(h, 3), read, api.OK, 1))
	s.wantImage("calls", h, callForm(id(h, 1), op(api.OpCreate, "k", 10, 4)), callForm(id(o, 1), read), callForm(id(h, 0), read), callForm(id(h, 3), read),
		callForm(id(h, 2), dec), dataForm(2, request.Data), dataForm(2, request.Data), dataForm(2, nil))
	s.wantImage("calls", o)
}

// StepFrame, StepDeliver, StepTick: what the replica makes of them; each has been written.
func TestP2302Frame(t *testing.T) {
	s, h, o := begun(t)
	s.wantAnswer("asked", s.call(o, 1, api.OpDec, 1), api.OK)
	ask := s.bag()
	if len(ask) != 1 || ask[0].From != o || ask[0].To != h {
		t.Fatalf("the bag %+v", ask)
	}
	s.wantAnswer("at its sender", s.frame(o, ask[0].Data), api.ErrLink)
	s.wantAnswer("at home", s.frame(h, ask[0].Data), api.OK)
	if now := s.bag(); len(now) < 2 || !sameLetters(now[:1], ask) || now[1].To != o {
		t.Errorf("the bag %+v", now)
	}
	s.wantAnswer("once more, by the bag", s.deliver(0), api.OK)
	s.wantAnswer("no frame", s.frame(h, nil), api.ErrFrame)
	s.wantAnswer("a tick", s.do(api.Step{Kind: api.StepTick, Replica: h, I: 3, Data: []byte{1}, Call: id(1, 1)}), api.OK)
	if see := s.see(h); see.Drops != 1 || see.Now != 1 || s.see(o).Drops != 1 {
		t.Errorf("%d drops, %d ticks", see.Drops, see.Now)
	}
	s.wantImage("frames", h, callForm(id(h, 1), op(api.OpCreate, "k", 10, 4)), dataForm(3, ask[0].Data), dataForm(3, ask[0].Data), dataForm(3, nil), dataForm(4, nil))
	s.wantImage("frames", o, callForm(id(o, 1), op(api.OpDec, "k", 1)), dataForm(3, ask[0].Data))
}

// StepDeliver of no letter, StepDrop, StepDouble, StepMove: the bag alone, whatever is down.
func TestP2302Bag(t *testing.T) {
	s := staged(t, config())
	h, o := home()
	s.call(o, 1, api.OpInc, 1)
	s.call(o, 2, api.OpInc, 2)
	first := s.bag()
	if len(first) != 2 {
		t.Fatalf("the bag %+v", first)
	}
	s.crash(h)
	looks := s.view().looks
	for _, b := range []struct {
		step api.Step
		e    api.Errno
		want []int
	}{
		{api.Step{Kind: api.StepDeliver, I: 2}, api.ErrIndex, []int{0, 1}},
		{api.Step{Kind: api.StepDeliver, I: -1}, api.ErrIndex, []int{0, 1}},
		{api.Step{Kind: api.StepMove, I: 0, J: 1}, api.OK, []int{1, 0}},
		{api.Step{Kind: api.StepMove, I: 0, J: 2}, api.ErrIndex, []int{1, 0}},
		{api.Step{Kind: api.StepDouble, I: 1, Replica: 9}, api.OK, []int{1, 0, 0}},
		{api.Step{Kind: api.StepDouble, I: 3}, api.ErrIndex, []int{1, 0, 0}},
		{api.Step{Kind: api.StepDrop, I: 3}, api.ErrIndex, []int{1, 0, 0}},
		{api.Step{Kind: api.StepDrop, I: 1}, api.OK, []int{1, 0}},
		{api.Step{Kind: api.StepDeliver, I: 1}, api.ErrDown, []int{1}},
		{api.Step{Kind: api.StepDeliver, I: 0}, api.ErrDown, nil},
		{api.Step{Kind: api.StepDeliver, I: 0}, api.ErrIndex, nil},
	} {
		s.wantAnswer("the bag", s.do(b.step), b.e)
		var want []api.Letter
		for _, i := range b.want {
			want = append(want, first[i])
		}
		if got := s.bag(); !sameLetters(got, want) {
			t.Errorf("behind %+v: %+v\nwant %+v", b.step, got, want)
		}
	}
	if now := s.view().looks; !reflect.DeepEqual(now, looks) {
		t.Errorf("a replica has seen it: %+v", now)
	}
}

// A look fills its own fields alone, and changes nothing.
func TestP2302Looks(t *testing.T) {
	s, h, o := begun(t)
	s.call(o, 1, api.OpRead)
	for range 2 {
		before := s.view()
		r := s.look(h)
		if len(r.Sight.Stocks) != 1 || !reflect.DeepEqual(r, api.Answer{Sight: r.Sight, Up: before.looks[h].Up}) {
			t.Errorf("StepSee: %+v", r)
		}
		bag := s.do(api.Step{Kind: api.StepBag})
		if len(bag.Bag) != 1 || !reflect.DeepEqual(bag, api.Answer{Bag: bag.Bag}) {
			t.Errorf("StepBag: %+v", bag)
		}
		witness := s.do(api.Step{Kind: api.StepWitness})
		if len(witness.Witness) != 1 || !reflect.DeepEqual(witness, api.Answer{Witness: witness.Witness}) {
			t.Errorf("StepWitness: %+v", witness)
		}
		image := s.do(api.Step{Kind: api.StepImage, Replica: h})
		if len(image.Image) != imageSize || !reflect.DeepEqual(image, api.Answer{Image: image.Image}) {
			t.Errorf("StepImage: %d bytes, %d", len(image.Image), image.Err)
		}
		s.wantView("looking", before)
		s.crash(h)
	}
}

// What an input can't be, and what has no room, is refused: it is not written, and the replica does not see it.
func TestP2302Long(t *testing.T) {
	s, h, _ := begun(t)
	before := s.view()
	long := string(make([]byte, 8187))
	s.arm(h, 0, 512)
	for _, step := range []api.Step{
		{Kind: api.StepFrame, Data: make([]byte, 8192)},
		{Kind: api.StepRequest, Data: make([]byte, 8192)},
		{Kind: api.StepFrame, Data: make([]byte, 1<<20)},
		{Kind: api.StepCall, Call: id(h, 2), Op: op(api.OpDec, long, 1)},
		{Kind: api.StepCall, Call: id(9, -1), Op: op(api.OpDec, long, 1)},
	} {
		step.Replica = h
		s.wantAnswer("too long", s.do(step), api.ErrLong)
	}
	s.arm(h, -1, 0)
	s.wantView("too long", before)
	s.wantAnswer("as long as may be", s.frame(h, make([]byte, 8191)), api.ErrVersion)
	s.wantAnswer("as long as may be", s.do(api.Step{Kind: api.StepRequest, Replica: h, Data: make([]byte, 8191)}), api.ErrWire)
	s.wantAnswer("as long as may be", s.call(h, 2, api.OpDec, 1), api.OK, reply(id(h, 2), api.OK, 0))
	s.wantAnswer("as long as may be", s.do(api.Step{Kind: api.StepCall, Replica: h, Call: id(h, 3), Op: op(api.OpDec, long[1:], 1)}), api.OK, reply(id(h, 3), api.ErrArg, 0))
	if see := s.see(h); see.Drops != 2 || !s.isUp(h) {
		t.Errorf("%+v", see)
	}
}

// A journal that is full refuses all inputs, and stays so; the other replicas go on.
func TestP2302Space(t *testing.T) {
	s, h, o := begun(t)
	for i := range 2046 {
		if a := s.tick(h); a.Err != api.OK {
			t.Fatalf("tick %d: %d", i, a.Err)
		}
		if len(s.bag()) > 40 {
			s.do(api.Step{Kind: api.StepDrop})
		}
	}
	before := s.view()
	s.wantAnswer("two sectors", s.frame(h, make([]byte, 496)), api.ErrSpace)
	s.wantView("two sectors", before)
	s.wantAnswer("one sector", s.frame(h, make([]byte, 495)), api.ErrVersion)
	if see := s.see(h); see.Drops != 1 || see.Now != 2046 {
		t.Errorf("%d drops, %d ticks", see.Drops, see.Now)
	}
	before = s.view()
	for range 2 {
		s.arm(h, 0, 512)
		s.wantAnswer("full", s.tick(h), api.ErrSpace)
		s.wantAnswer("full", s.call(h, 2, api.OpDec, 1), api.ErrSpace)
		s.wantAnswer("full", s.frame(h, nil), api.ErrSpace)
		s.wantView("full", before)
		s.wantAnswer("StepCrash", s.crash(h), api.OK)
		s.wantAnswer("StepRestart", s.restart(h), api.OK)
		s.wantView("full", before)
	}
	s.wantAnswer("the other one", s.tick(o), api.OK)
}

func TestP2303TooLong(t *testing.T) {
	for _, n := range []int{0, 1, api.MaxSteps} {
		if l, e := fleet.Run(config(), make([]api.Step, n)); e != api.OK || len(l) != n {
			t.Errorf("%d steps: %d, %d", n, len(l), e)
		}
	}
	if l, e := fleet.Run(config(), make([]api.Step, api.MaxSteps+1)); e != api.ErrLong || len(l) != 0 {
		t.Errorf("one too many: %d, %d", len(l), e)
	}
	if l, e := fleet.Run(api.Config{}, make([]api.Step, api.MaxSteps+1)); e != api.ErrArg || len(l) != 0 {
		t.Errorf("no config, and one too many: %d, %d", len(l), e)
	}
}

// The looks are counted, whichever they are, refused ones too; nothing else is.
func TestP2303Looks(t *testing.T) {
	looks := []int{api.StepSee, api.StepBag, api.StepWitness, api.StepImage}
	script := func(n int, kinds ...int) []api.Step {
		var steps []api.Step
		for i := range n {
			steps = append(steps, api.Step{Kind: kinds[i%len(kinds)], Replica: i % 3}, api.Step{Kind: api.StepRequest})
		}
		return steps
	}
	for _, kinds := range append([][]int{looks}, looks[:1], looks[1:2], looks[2:3], looks[3:]) {
		if l, e := fleet.Run(config(), script(api.MaxLooks, kinds...)); e != api.OK || len(l) != 2*api.MaxLooks {
			t.Errorf("as many looks as may be: %d, %d", len(l), e)
		}
		if l, e := fleet.Run(config(), script(api.MaxLooks+1, kinds...)); e != api.ErrLong || len(l) != 0 {
			t.Errorf("one look more than may be: %d, %d", len(l), e)
		}
	}
	for _, kind := range slices.Concat(named, others, []int{0, 16}) {
		if slices.Contains(looks, kind) {
			continue
		}
		if l, e := fleet.Run(config(), script(100, kind)); e != api.OK || len(l) != 200 {
			t.Errorf("steps of the kind %d are no looks: %d, %d", kind, len(l), e)
		}
	}
	s := staged(t, config())
	for range api.MaxLooks + 1 {
		if a := s.look(0); a.Err != api.OK {
			t.Fatalf("Do: %d", a.Err)
		}
	}
}
