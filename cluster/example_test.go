package cluster_test

import (
	"reflect"
	"testing"

	"sluice/api"
)

// The chapter's ten examples; h is the home of k, o the other replica, and each one's session has its number.

// first is a cluster behind the first example.
func first(t *testing.T) (s *stage, h, o int) {
	t.Helper()
	s = staged(t, config())
	h, o = home()
	s.wantAnswer("example 1", s.call(h, 1, api.OpCreate, 10, 4), api.OK, reply(id(h, 1), api.OK, 0))
	return s, h, o
}

// fourth is a cluster behind the fourth one.
func fourth(t *testing.T) (s *stage, h, o int) {
	t.Helper()
	s, h, o = first(t)
	s.wantAnswer("example 4", s.call(o, 1, api.OpDec, 1), api.OK)
	s.wantKinds("example 4", api.MsgAsk)
	s.wantReplies("example 4", s.deliverAll(), reply(id(o, 1), api.ErrRights, 0))
	s.wantAnswer("example 4", s.tick(h), api.OK)
	s.wantReplies("example 4", s.deliverAll())
	s.wantAnswer("example 4", s.tick(o), api.OK)
	s.wantKinds("example 4", api.MsgWant, api.MsgDigest)
	s.wantReplies("example 4", s.deliverAll())
	if k := s.stock(o); k.Rights != rights(1, 0) {
		t.Errorf("example 4: h gives %+v", k.Rights)
	}
	s.wantAnswer("example 4", s.call(o, 2, api.OpDec, 1), api.OK, reply(id(o, 2), api.OK, 0))
	return s, h, o
}

func TestP1502Example1(t *testing.T) {
	s, h, _ := first(t)
	s.wantWitness("example 1", effect(1, id(h, 1), op(api.OpCreate, "k", 10, 4), api.OK, 0))
	s.wantKinds("example 1")
	if n := len(s.bag()); n != 0 {
		t.Errorf("example 1: %d frames", n)
	}
}

func TestP1502Example2(t *testing.T) {
	s, h, _ := first(t)
	s.wantAnswer("OpDec 3", s.call(h, 2, api.OpDec, 3), api.OK, reply(id(h, 2), api.OK, 0))
	s.wantAnswer("OpDec 3", s.call(h, 3, api.OpDec, 3), api.OK, reply(id(h, 3), api.ErrRights, 0))
	s.wantAnswer("OpInc 9", s.call(h, 4, api.OpInc, 9), api.OK, reply(id(h, 4), api.OK, 0))
	s.wantAnswer("OpInc 1", s.call(h, 5, api.OpInc, 1), api.OK, reply(id(h, 5), api.ErrRights, 0))
	s.wantWitness("example 2", effect(1, id(h, 1), op(api.OpCreate, "k", 10, 4), api.OK, 0),
		effect(2, id(h, 2), op(api.OpDec, "k", 3), api.OK, 0), effect(4, id(h, 4), op(api.OpInc, "k", 9), api.OK, 0))
	if n := len(s.bag()); n != 0 {
		t.Errorf("example 2: %d frames", n)
	}
}

func TestP1502Example3(t *testing.T) {
	s, h, _ := first(t)
	s.wantAnswer("OpRead", s.call(h, 2, api.OpRead), api.OK, reply(id(h, 2), api.OK, 4))
	if n := len(s.bag()); n != 0 {
		t.Errorf("example 3: %d frames", n)
	}
}

func TestP1502Example4(t *testing.T) {
	s, h, o := fourth(t)
	w := s.witness()
	if len(w) != 2 || w[1].Call != id(o, 2) || w[1].Op != op(api.OpDec, "k", 1) {
		t.Errorf("example 4: the witness %+v", w)
	}
	if a, b := s.stock(h).Rights, s.stock(o).Rights; a != rights(3, 6) || b != rights(0, 1) {
		t.Errorf("example 4: %+v, %+v", a, b)
	}
}

// Where h has not ticked, o does not know whom to ask.
func TestP1502Example4NotTicked(t *testing.T) {
	s, h, o := first(t)
	s.call(o, 1, api.OpDec, 1)
	s.deliverAll()
	s.tick(o)
	s.wantKinds("nobody is known to have any", api.MsgDigest)
	s.deliverAll()
	s.tick(h)
	s.deliverAll()
	s.tick(o)
	s.wantKinds("h is known to", api.MsgWant, api.MsgDigest)
}

func TestP1502Example5(t *testing.T) {
	s, h, o := fourth(t)
	s.wantAnswer("example 5", s.call(o, 3, api.OpRead), api.OK)
	s.wantKinds("example 5", api.MsgMark)
	s.wantAnswer("the MsgMark", s.deliver(0), api.OK)
	s.wantKinds("example 5", api.MsgYield)
	for _, l := range s.bag() {
		if m, there := message(t, l.Data); there && (m.Rights != rights(3, 6) || m.Epoch != epochOf(1, o)) {
			t.Errorf("example 5: h yields %+v", m)
		}
	}
	if k := s.stock(o); k.Got != rights(0, 1) || k.Own != epochOf(1, o) {
		t.Errorf("example 5: o gathers %+v", k)
	}
	s.wantReplies("example 5", s.deliverAll(), reply(id(o, 3), api.OK, 3))
	a, b := s.stock(h).Rights, s.stock(o).Rights
	if a.Down+b.Down != 3 || a.Up+b.Up != 7 || a.Down < 1 || a.Down > 2 || a.Up < 3 || a.Up > 4 {
		t.Errorf("example 5: dealt out as %+v, %+v", a, b)
	}
}

func TestP1502Example6(t *testing.T) {
	s, h, o := fourth(t)
	s.wantAnswer("at h", s.call(h, 2, api.OpRead), api.OK)
	s.wantAnswer("at o", s.call(o, 3, api.OpRead), api.OK)
	if a, b := s.stock(h).Own, s.stock(o).Own; a != epochOf(1, h) || b != epochOf(1, o) {
		t.Errorf("example 6: both begin %+v, %+v", a, b)
	}
	replies := s.deliverAll()
	if len(replies) != 2 || replies[0].Err != api.OK || replies[0].Value != 3 || replies[1].Err != api.OK || replies[1].Value != 3 {
		t.Fatalf("example 6: %+v", replies)
	}
	if replies[0].Call.Session != 1 || replies[1].Call.Session != 0 {
		t.Errorf("example 6: the one of the higher rank reads first: %+v", replies)
	}
	for me := range 2 {
		if k := s.stock(me); len(k.Live) != 0 || k.Wait != 0 {
			t.Errorf("example 6: %d has %+v", me, k)
		}
	}
}

func TestP1502Example7(t *testing.T) {
	s, h, o := first(t)
	s.wantAnswer("OpHold", s.call(h, 2, api.OpHold, 2, 5), api.OK, reply(id(h, 2), api.OK, 16+h))
	s.wantAnswer("OpRead at o", s.call(o, 1, api.OpRead), api.OK)
	s.wantReplies("OpRead at o", s.deliverAll(), reply(id(o, 1), api.OK, 2))
	s.wantAnswer("OpRelease", s.call(h, 3, api.OpRelease, 16+h), api.OK, reply(id(h, 3), api.OK, 2))
	s.wantAnswer("OpRelease again", s.call(h, 4, api.OpRelease, 16+h), api.OK, reply(id(h, 4), api.ErrHold, 0))
	s.wantAnswer("OpRead at o", s.call(o, 2, api.OpRead), api.OK)
	s.wantReplies("OpRead at o", s.deliverAll(), reply(id(o, 2), api.OK, 4))
}

func TestP1502Example8(t *testing.T) {
	s, h, _ := first(t)
	s.call(h, 2, api.OpHold, 2, 5)
	before := s.scene()
	for range 2 {
		s.wantAnswer("once more", s.call(h, 2, api.OpHold, 2, 5), api.OK, reply(id(h, 2), api.OK, 16+h))
	}
	if after := s.scene(); !reflect.DeepEqual(before, after) {
		t.Errorf("example 8: it works a second time: %+v", after)
	}
	s.call(h, 3, api.OpRelease, 16+h)
	s.wantAnswer("behind (s, 3)", s.call(h, 2, api.OpHold, 2, 5), api.OK, reply(id(h, 2), api.OK, 16+h))
	s.call(h, 4, api.OpRelease, 16+h)
	s.wantAnswer("behind (s, 4)", s.call(h, 2, api.OpHold, 2, 5), api.ErrStale)
}

func TestP1502Example9(t *testing.T) {
	s, h, o := first(t)
	s.call(o, 1, api.OpInc, 2)
	s.deliverAll()
	s.tick(h)
	s.deliverAll()
	s.tick(o)
	s.deliverAll()
	s.wantAnswer("two rights are given", s.call(o, 2, api.OpInc, 1), api.OK, reply(id(o, 2), api.OK, 0))
	s.wantAnswer("example 9", s.call(o, 3, api.OpRead), api.OK)
	for k := range 20 {
		s.dropAll()
		a := s.tick(o)
		if k < 19 {
			s.wantAnswer("it waits", a, api.OK)
		} else {
			s.wantAnswer("example 9", a, api.OK, reply(id(o, 3), api.ErrTimeout, 0))
		}
	}
	k, left := s.stock(o), 0
	for _, m := range underWay(t, s.sights(), o, h) {
		if m.Kind == api.MsgAbort && m.Epoch == epochOf(1, o) {
			left += m.Rights.Down + m.Rights.Up
		}
	}
	if len(k.Live) != 0 || left == 0 || k.Rights.Down+k.Rights.Up+left != 2 {
		t.Errorf("example 9: o has %+v, and %d are under way", k, left)
	}
	s.dropAll()
	for range 3 {
		s.tick(o)
		s.deliverAll()
		s.tick(h)
		s.deliverAll()
	}
	a, b := s.stock(h), s.stock(o)
	if len(a.Live)+len(b.Live) != 0 || a.Rights.Down+b.Rights.Down != 5 || a.Rights.Up+b.Rights.Up != 5 || a.About != 5 || b.About != 5 {
		t.Errorf("example 9: %+v, %+v", a, b)
	}
}

func TestP1502Example10(t *testing.T) {
	s, h, o := fourth(t)
	s.call(o, 3, api.OpRead)
	for n, b := range []struct {
		data []byte
		e    api.Errno
	}{{nil, api.ErrFrame}, {[]byte{9, 9, 9}, 0}, {[]byte("any bytes, and some more of them"), 0}, {make([]byte, 5000), 0}} {
		before := s.scene()
		a := s.do(api.Step{Kind: api.StepFrame, Replica: h, Data: b.data})
		if a.Err != api.ErrFrame && a.Err != api.ErrVersion && a.Err != api.ErrSum || b.e != 0 && a.Err != b.e {
			t.Errorf("example 10: %q: %d", b.data, a.Err)
		}
		s.wantAnswer("example 10", a, a.Err)
		before.sights[h].Drops++
		if after := s.scene(); !reflect.DeepEqual(before, after) || after.sights[h].Drops != n+1 {
			t.Errorf("example 10: something else has happened: %+v", after)
		}
	}
}
