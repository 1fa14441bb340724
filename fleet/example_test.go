package fleet_test

import (
	"testing"

	"sluice/api"
)

// The chapter's examples; h is the home of k, o the other replica, and each one's session has its number.

func TestP2302Example1(t *testing.T) {
	s, h, _ := begun(t)
	s.arm(h, 0, 7)
	s.wantAnswer("torn", s.call(h, 2, api.OpDec, 1), api.ErrDown)
	s.wantWitness("torn", madeK())
	s.wantUp("torn", h, false)
	s.wantAnswer("StepRestart", s.restart(h), api.OK)
	s.wantUp("StepRestart", h, true)
	s.wantAnswer("again", s.call(h, 2, api.OpDec, 1), api.OK, reply(id(h, 2), api.OK, 0))
	s.wantTwo("again", s.step, id(h, 2), op(api.OpDec, "k", 1), 0)
}

func TestP2302Example2(t *testing.T) {
	s, h, _ := begun(t)
	s.arm(h, 0, 512)
	s.wantAnswer("whole", s.call(h, 2, api.OpDec, 1), api.ErrDown)
	at := s.step
	s.wantTwo("whole", at, id(h, 2), op(api.OpDec, "k", 1), 0)
	s.wantAnswer("StepRestart", s.restart(h), api.OK)
	s.wantAnswer("again", s.call(h, 2, api.OpDec, 1), api.OK, reply(id(h, 2), api.OK, 0))
	s.wantTwo("again", at, id(h, 2), op(api.OpDec, "k", 1), 0)
}

// gathering is a fleet in which o gathers: its MsgMark lies in the bag. It is (o, 2) that reads.
func gathering(t *testing.T) (s *stage, h, o int) {
	t.Helper()
	s, h, o = begun(t)
	s.call(o, 1, api.OpRead)
	if replies := s.deliverAll(); len(replies) != 1 || replies[0] != reply(id(o, 1), api.OK, 4) {
		t.Fatalf("OpRead: %+v", replies)
	}
	s.wantAnswer("OpRead again", s.call(o, 2, api.OpRead), api.OK)
	s.wantKinds("OpRead again", api.MsgMark)
	return s, h, o
}

func TestP2302Example3(t *testing.T) {
	s, h, o := gathering(t)
	s.wantAnswer("StepCrash", s.crash(o), api.OK)
	s.wantKinds("StepCrash", api.MsgMark)
	s.wantAnswer("MsgMark", s.deliver(0), api.OK)
	s.wantKinds("h yields", api.MsgYield)
	if replies := s.deliverAll(); len(replies) != 0 {
		t.Errorf("%+v", replies)
	}
	s.tick(h)
	s.tick(h)
	if replies := s.deliverAll(); len(replies) != 0 || s.isUp(o) {
		t.Errorf("%+v", replies)
	}
	s.wantAnswer("StepRestart", s.restart(o), api.OK)
	if k := s.see(o).Stocks[0]; k.Own.Round == 0 || len(k.Live) != 1 {
		t.Errorf("it gathers on: %+v", k)
	}
	s.tick(h)
	s.tick(h)
	if replies := s.deliverAll(); len(replies) != 1 || replies[0] != reply(id(o, 2), api.OK, 4) {
		t.Errorf("All: %+v", replies)
	}
}

func TestP2302Example4(t *testing.T) {
	s, _, o := gathering(t)
	see := s.see(o)
	s.crash(o)
	s.restart(o)
	s.wantSight("StepRestart", o, true, see)
}

func TestP2302Example5(t *testing.T) {
	s, h, _ := begun(t)
	s.wantAnswer("StepCrash", s.crash(h), api.OK)
	s.wantAnswer("StepArm", s.do(api.Step{Kind: api.StepArm, Replica: h}), api.OK)
	s.wantAnswer("StepRestart", s.restart(h), api.OK)
	s.wantUp("StepRestart", h, true)
	s.wantAnswer("the next write", s.tick(h), api.ErrDown)
}
