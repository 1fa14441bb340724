package fleet_test

import (
	"bytes"
	"math"
	"reflect"
	"testing"

	"sluice/api"
)

// inputs are steps that bring an input to the replica, a letter to which must be the bag's first.
func inputs(me int) []api.Step {
	return []api.Step{
		asked(me, 9, api.OpDec, 1), {Kind: api.StepRequest, Replica: me, Data: []byte{1}}, {Kind: api.StepFrame, Replica: me},
		{Kind: api.StepTick, Replica: me}, {Kind: api.StepFrame, Replica: me, Data: make([]byte, 9000)}, {Kind: api.StepDeliver},
	}
}

// A replica that is down takes nothing: no input is written, no drop is counted; a letter to it is gone.
func TestP2302DownTakesNothing(t *testing.T) {
	s, h, o := begun(t)
	s.call(o, 1, api.OpDec, 1)
	s.wantAnswer("StepCrash", s.crash(h), api.OK)
	before := s.view()
	if before.looks[h].Up || !before.looks[o].Up || len(before.bag) != 1 {
		t.Fatalf("%+v", before)
	}
	for _, step := range inputs(h) {
		s.wantAnswer("down", s.do(step), api.ErrDown)
	}
	before.bag = nil
	s.wantView("down", before)
	s.wantAnswer("the other one", s.tick(o), api.OK)
}

func TestP2302Crash(t *testing.T) {
	s, h, o := begun(t)
	s.call(h, 2, api.OpDec, 1)
	s.call(o, 1, api.OpDec, 1)
	s.tick(h)
	before := s.view()
	for range 2 {
		s.wantAnswer("StepRestart of one that is up", s.restart(h), api.ErrStep)
		s.wantView("StepRestart of one that is up", before)
		s.wantAnswer("StepCrash", s.crash(h), api.OK)
		before.looks[h].Up = false
		s.wantView("StepCrash", before)
		s.wantAnswer("StepCrash again", s.crash(h), api.ErrDown)
		s.wantView("StepCrash again", before)
		s.wantAnswer("StepRestart", s.restart(h), api.OK)
		before.looks[h].Up = true
		s.wantView("StepRestart", before)
	}
	s.wantAnswer("a reply that is kept", s.call(h, 2, api.OpDec, 1), api.OK, reply(id(h, 2), api.OK, 0))
	s.wantAnswer("it goes on", s.call(h, 3, api.OpDec, 3), api.OK, reply(id(h, 3), api.OK, 0))
	if n := len(s.witness()); n != 3 {
		t.Errorf("%d effects", n)
	}
}

// Both are down: what the one has lost the other one sends again, when both are up.
func TestP2302AllDown(t *testing.T) {
	s, h, o := begun(t)
	s.call(o, 1, api.OpDec, 1)
	s.crash(h)
	s.crash(o)
	s.wantAnswer("to one that is down", s.deliver(0), api.ErrDown)
	s.restart(o)
	s.restart(h)
	s.tick(o)
	if n := len(s.bag()); n != 0 {
		t.Errorf("it is sent again ahead of its time: %d letters", n)
	}
	s.tick(o)
	s.wantKinds("sent again", api.MsgAsk)
	if replies := s.deliverAll(); len(replies) != 1 || replies[0] != reply(id(o, 1), api.ErrRights, 0) {
		t.Errorf("%+v", replies)
	}
}

// wantTwo asserts that the witness has the OpCreate of k, and one effect more.
func (s *stage) wantTwo(what string, at int, call api.Call, o api.Op, value int) {
	s.t.Helper()
	s.wantWitness(what, madeK(), effect(at, call, o, api.OK, value))
}

// madeK is the first effect of the examples.
func madeK() api.Effect {
	h, _ := home()
	return effect(1, id(h, 1), op(api.OpCreate, "k", 10, 4), api.OK, 0)
}

// The power fails in a call, at any number of bytes: the witness has the effect of just what lasts, with this step's
// number, and the call works once.
func TestP2302AnyByte(t *testing.T) {
	dec := op(api.OpDec, "k", 1)
	for torn := -1; torn < 514; torn++ {
		if torn > 20 && torn < 500 && torn%16 > 0 {
			continue
		}
		s, h, _ := begun(t)
		ahead := s.see(h)
		s.arm(h, 0, torn)
		s.wantAnswer("OpDec", s.call(h, 2, api.OpDec, 1), api.ErrDown)
		at := s.step
		s.wantUp("OpDec", h, false)
		if torn < 512 {
			s.wantWitness("torn", madeK())
			s.wantSight("torn", h, false, ahead)
		} else {
			s.wantTwo("whole", at, id(h, 2), dec, 0)
		}
		was := s.see(h)
		s.wantAnswer("StepRestart", s.restart(h), api.OK)
		s.wantSight("StepRestart", h, true, was)
		s.wantAnswer("OpDec again", s.call(h, 2, api.OpDec, 1), api.OK, reply(id(h, 2), api.OK, 0))
		if torn < 512 {
			at = s.step
		}
		s.wantTwo("OpDec again", at, id(h, 2), dec, 0)
		if k := s.see(h).Stocks[0]; k.Rights != (api.Rights{Down: 3, Up: 7}) {
			t.Errorf("%+v", k)
		}
		if t.Failed() {
			t.Fatalf("%d bytes", torn)
		}
	}
}

// An input of more sectors lasts, if its last one does.
func TestP2302Sectors(t *testing.T) {
	for after := range 4 {
		for _, torn := range []int{0, 8, 511, 512} {
			s, h, _ := begun(t)
			data := bytes.Repeat([]byte{7}, 1300)
			s.arm(h, after, torn)
			a := s.frame(h, data)
			drops := 0
			if after == 3 {
				s.wantAnswer("not yet", a, api.ErrVersion)
				s.wantAnswer("now", s.frame(h, nil), api.ErrDown)
				drops = 1
			} else {
				s.wantAnswer("now", a, api.ErrDown)
			}
			if torn == 512 && after > 1 {
				drops++
			}
			if n := s.see(h).Drops; n != drops || s.isUp(h) {
				t.Errorf("behind %d, %d bytes: %d drops", after, torn, n)
			}
			s.restart(h)
			if n := s.see(h).Drops; n != drops || !s.isUp(h) {
				t.Errorf("behind %d, %d bytes, up: %d drops", after, torn, n)
			}
		}
	}
}

// What was about to be sent and replied is lost; what lasts is sent again, and replied when it is asked for.
func TestP2302ActsAreLost(t *testing.T) {
	s, h, o := begun(t)
	s.arm(o, 0, 512)
	s.wantAnswer("asked", s.call(o, 1, api.OpRead), api.ErrDown)
	s.wantKinds("its MsgAsk is lost")
	if see := s.see(o); len(see.Calls) != 1 || len(see.Under[h]) != 1 {
		t.Errorf("%+v", see)
	}
	s.restart(o)
	s.wantAnswer("it waits", s.call(o, 1, api.OpRead), api.ErrPending)
	s.tick(o)
	s.tick(o)
	s.wantKinds("sent again", api.MsgAsk)
	s.deliver(0)
	s.wantAnswer("MsgTold", s.deliver(s.find(api.MsgTold)), api.OK)
	s.wantAnswer("MsgMark", s.deliver(s.find(api.MsgMark)), api.OK)
	s.arm(o, 0, 512)
	s.wantAnswer("all is gathered", s.deliver(s.find(api.MsgYield)), api.ErrDown)
	s.wantTwo("all is gathered", s.step, id(o, 1), op(api.OpRead, "k"), 4)
	s.wantKinds("its MsgGrant is lost")
	s.restart(o)
	s.wantAnswer("the reply", s.call(o, 1, api.OpRead), api.OK, reply(id(o, 1), api.OK, 4))
	if len(s.see(h).Stocks[0].Live) != 1 {
		t.Error("h knows already")
	}
	for range 3 {
		s.tick(o)
		s.deliverAll()
	}
	if a, b := s.see(h).Stocks[0], s.see(o).Stocks[0]; len(a.Live)+len(b.Live) != 0 || a.Rights.Down+b.Rights.Down != 4 || a.Rights.Up+b.Rights.Up != 6 {
		t.Errorf("%+v, %+v", a, b)
	}
	if n := len(s.witness()); n != 2 {
		t.Errorf("%d effects", n)
	}
}

// find tells where in the bag the first message of a kind lies.
func (s *stage) find(kind int) int {
	s.t.Helper()
	for i, l := range s.bag() {
		if m, there := message(s.t, l.Data); there && m.Kind == kind {
			return i
		}
	}
	s.t.Fatalf("no message of the kind %d is under way", kind)
	return 0
}

// An effect that no call has had, of a tick; and effects of a frame, at the home of a name that another one has asked for.
func TestP2302LateEffects(t *testing.T) {
	s, h, o := begun(t)
	s.call(h, 2, api.OpHold, 2, 1)
	s.arm(h, 0, 511)
	s.wantAnswer("the hold's time", s.tick(h), api.ErrDown)
	if n := len(s.witness()); n != 2 {
		t.Errorf("%d effects", n)
	}
	s.restart(h)
	s.arm(h, 0, 512)
	s.wantAnswer("the hold's time", s.tick(h), api.ErrDown)
	want := []api.Effect{
		madeK(), effect(2, id(h, 2), op(api.OpHold, "k", 2, 1), api.OK, 16+h),
		effect(s.step, id(-1, 0), op(api.OpExpire, "k", 16+h), api.OK, 0),
	}
	s.wantWitness("it has expired", want...)
	s.do(api.Step{Kind: api.StepCall, Replica: o, Call: id(o, 1), Op: op(api.OpCreate, "k", 3)})
	s.restart(h)
	s.arm(h, 0, 512)
	s.wantAnswer("MsgAsk", s.deliver(s.find(api.MsgAsk)), api.ErrDown)
	want = append(want, effect(s.step, id(o, 1), op(api.OpCreate, "k", 3), api.ErrExists, 0))
	s.wantWitness("the home has answered", want...)
	s.restart(h)
	s.tick(h)
	s.crash(h)
	s.restart(h)
	s.wantWitness("no effect comes twice", want...)
	s.call(h, 3, api.OpDec, 4)
	s.wantWitness("it goes on", append(want, effect(s.step, id(h, 3), op(api.OpDec, "k", 4), api.OK, 0))...)
}

// The power fails three times in a row: the witness knows how far it has come.
func TestP2302AgainAndAgain(t *testing.T) {
	s, h, _ := begun(t)
	want := s.witness()
	for i := range 3 {
		s.arm(h, 0, 512)
		s.wantAnswer("OpDec", s.call(h, 2+i, api.OpDec, 1), api.ErrDown)
		want = append(want, effect(s.step, id(h, 2+i), op(api.OpDec, "k", 1), api.OK, 0))
		s.wantWitness("whole", want...)
		s.restart(h)
		s.wantWitness("restarted", want...)
		s.arm(h, 0, 100)
		s.wantAnswer("OpDec", s.call(h, 3+i, api.OpDec, 1), api.ErrDown)
		s.wantWitness("torn", want...)
		s.restart(h)
	}
	s.wantAnswer("OpDec", s.call(h, 5, api.OpDec, 2), api.OK, reply(id(h, 5), api.ErrRights, 0))
	s.wantWitness("all", want...)
}

// writes tells how many ticks, of one raw write each, the power of a replica lasts, up to ten.
func (s *stage) writes(me int) int {
	s.t.Helper()
	for n := range 10 {
		switch a := s.tick(me); a.Err {
		case api.OK:
		case api.ErrDown:
			return n
		default:
			s.t.Fatalf("a tick: %d", a.Err)
		}
	}
	return 10
}

func (s *stage) wantWrites(what string, me, want int) {
	s.t.Helper()
	if got := s.writes(me); got != want {
		s.t.Errorf("%s: the power lasts %d writes, want %d", what, got, want)
	}
}

// What a replica that is up is armed with: the last one counts, each other one has its own.
func TestP2302ArmUp(t *testing.T) {
	s := staged(t, config())
	for after := range 4 {
		s.arm(1, after, 9)
		s.wantWrites("the other one", 0, 10)
		s.wantWrites("armed", 1, after)
		s.restart(1)
		s.wantWrites("restarted", 1, 10)
	}
	s.arm(0, 1, 9)
	s.arm(0, 3, 9)
	s.wantWrites("the last one", 0, 3)
	s.restart(0)
	for _, none := range []int{-1, math.MinInt64} {
		s.arm(0, 1, 9)
		s.arm(0, none, 9)
		s.wantWrites("no more", 0, 10)
	}
	s.arm(0, math.MaxInt64, 9)
	s.wantWrites("not soon", 0, 10)
	s.arm(0, 2, 9)
	s.tick(0)
	s.look(0)
	s.frame(0, make([]byte, 9000))
	s.wantWrites("what is not written is not counted", 0, 1)
	s.restart(0)
	s.arm(0, 2, 9)
	s.crash(0)
	s.restart(0)
	s.wantWrites("StepCrash takes it away", 0, 10)
}

// What one that is down is armed with waits for its restart, and is forgotten then.
func TestP2302ArmDown(t *testing.T) {
	s := staged(t, config())
	for after := range 3 {
		s.crash(1)
		before := s.view()
		s.arm(1, after+1, 9)
		s.arm(1, after, 9)
		s.wantView("armed", before)
		s.wantWrites("the other one", 0, 10)
		s.restart(1)
		s.wantWrites("the last one", 1, after)
		s.restart(1)
		s.wantWrites("forgotten", 1, 10)
	}
	s.crash(1)
	s.arm(1, 1, 9)
	s.arm(1, -1, 9)
	s.restart(1)
	s.wantWrites("no more", 1, 10)
	s.crash(1)
	s.arm(1, 1, 9)
	s.restart(1)
	s.crash(1)
	s.restart(1)
	s.wantWrites("StepCrash takes it away", 1, 10)
	s.crash(1)
	s.arm(1, 1, 9)
	s.restart(1)
	s.arm(1, 3, 9)
	s.wantWrites("armed anew", 1, 3)
	s.arm(1, 2, 9)
	s.wantWrites("down", 1, 0)
	s.restart(1)
	s.wantWrites("down by itself, armed and restarted", 1, 2)
}

// How many bytes are written is said by what was remembered too.
func TestP2302ArmDownTorn(t *testing.T) {
	for torn, lasts := range map[int]bool{0: false, 511: false, 512: true, 9999: true, -4: false} {
		s, h, _ := begun(t)
		s.crash(h)
		s.arm(h, 0, torn)
		s.restart(h)
		s.wantAnswer("OpDec", s.call(h, 2, api.OpDec, 1), api.ErrDown)
		if n := len(s.witness()); (n == 2) != lasts {
			t.Errorf("%d bytes: %d effects", torn, n)
		}
	}
}

// A disk has what was written: whole records, and the first bytes of a torn one, whether the replica is up or not.
func TestP2302Image(t *testing.T) {
	s, h, o := begun(t)
	create, dec := callForm(id(h, 1), op(api.OpCreate, "k", 10, 4)), callForm(id(h, 2), op(api.OpDec, "k", 1))
	s.wantImage("one record", h, create)
	s.arm(h, 0, 20)
	s.call(h, 2, api.OpDec, 1)
	want := append(laid(1, create), laid(2, dec)[:20]...)
	want = append(want, make([]byte, imageSize-len(want))...)
	for range 2 {
		if !bytes.Equal(s.image(h), want) {
			t.Error("torn: the disk is another one")
		}
		s.restart(h)
	}
	s.tick(h)
	s.wantImage("torn, and a tick", h, create, dataForm(4, nil))
	s.arm(h, 1, 512)
	data := bytes.Repeat([]byte{3}, 700)
	s.frame(h, data)
	s.wantImage("down", h, create, dataForm(4, nil), dataForm(3, data))
	s.wantImage("the other one", o)
}

// Restarting and looking write nothing, however often.
func TestP2302OpeningWritesNothing(t *testing.T) {
	s, h, _ := begun(t)
	s.tick(h)
	image, see := s.image(h), s.see(h)
	s.crash(h)
	for range 5 {
		s.arm(h, 0, 512)
		s.wantAnswer("StepRestart", s.restart(h), api.OK)
		s.wantSight("StepRestart", h, true, see)
		s.crash(h)
		s.wantSight("StepCrash", h, false, see)
		if !bytes.Equal(s.image(h), image) {
			t.Error("the disk has changed")
		}
	}
}

// The replica that is down tells its Sight by its disk, each time anew.
func TestP2302SeeDown(t *testing.T) {
	s, h, o := begun(t)
	s.arm(h, 0, 512)
	s.call(h, 2, api.OpHold, 1, 9)
	a := s.look(h)
	if a.Up || len(a.Sight.Stocks) != 1 || a.Sight.Stocks[0].Held != 1 {
		t.Errorf("%+v", a)
	}
	if b := s.look(h); !reflect.DeepEqual(a, b) {
		t.Errorf("%+v\n%+v", a, b)
	}
	s.wantUp("the other one", o, true)
}
