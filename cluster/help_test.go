package cluster_test

import (
	"bytes"
	"reflect"
	"testing"

	"sluice/api"
	"sluice/cluster"
	"sluice/frame"
	"sluice/names"
	"sluice/wire"
)

// dice: numbers that hang on its beginning alone.
type dice uint64

func (d *dice) roll(n int) int {
	*d = *d*6364136223846793005 + 1442695040888963407
	return int(uint64(*d) >> 33 % uint64(n))
}

func (d *dice) bytes(n int) []byte {
	b := make([]byte, n)
	for i := range b {
		b[i] = byte(d.roll(256))
	}
	return b
}

// config is that of the chapter's examples.
func config() api.Config {
	return api.Config{Replicas: 2, Window: 2, Resend: 2, Timeout: 20, Queue: 4, Cache: 2, Counters: 2, Holds: 2, Sessions: 4, Bag: 50}
}

// home is the replica at which k is at home, and the other one; the session of each has its number.
func home() (h, o int) {
	h = names.Home("k", 2)
	return h, 1 - h
}

func made(t *testing.T, c api.Config) *cluster.Cluster {
	t.Helper()
	all, e := cluster.New(c)
	if e != api.OK || all == nil {
		t.Fatalf("New(%+v): %v, %d", c, all, e)
	}
	return all
}

// stage is a cluster whose steps are counted.
type stage struct {
	t    *testing.T
	all  *cluster.Cluster
	c    api.Config
	step int
}

func staged(t *testing.T, c api.Config) *stage {
	t.Helper()
	return &stage{t: t, all: made(t, c), c: c}
}

func (s *stage) do(step api.Step) api.Answer {
	s.step++
	return s.all.Do(step)
}

// call lets the session that is called as its replica ask for something about k.
func (s *stage) call(me, id, kind int, ab ...int) api.Answer {
	return s.do(api.Step{Kind: api.StepCall, Replica: me, Call: api.Call{Session: me, Id: id}, Op: op(kind, "k", ab...)})
}

func (s *stage) tick(me int) api.Answer {
	return s.do(api.Step{Kind: api.StepTick, Replica: me})
}

func (s *stage) deliver(i int) api.Answer {
	return s.do(api.Step{Kind: api.StepDeliver, I: i})
}

func (s *stage) see(me int) api.Sight {
	return s.do(api.Step{Kind: api.StepSee, Replica: me}).Sight
}

func (s *stage) bag() []api.Letter {
	return s.do(api.Step{Kind: api.StepBag}).Bag
}

func (s *stage) witness() []api.Effect {
	return s.do(api.Step{Kind: api.StepWitness}).Witness
}

func (s *stage) sights() []api.Sight {
	var list []api.Sight
	for me := range s.c.Replicas {
		list = append(list, s.see(me))
	}
	return list
}

// all that is to be seen, but for the number of steps.
type scene struct {
	sights  []api.Sight
	bag     []api.Letter
	witness []api.Effect
}

func (s *stage) scene() scene {
	return scene{s.sights(), s.bag(), s.witness()}
}

// deliverAll delivers till the bag is empty: the replies that come.
func (s *stage) deliverAll() []api.Reply {
	s.t.Helper()
	var replies []api.Reply
	for range 1000 {
		if len(s.bag()) == 0 {
			return replies
		}
		a := s.deliver(0)
		if a.Err != api.OK {
			s.t.Fatalf("a frame that was sent: %d", a.Err)
		}
		replies = append(replies, a.Replies...)
	}
	s.t.Fatalf("the bag is never empty: %+v", s.bag())
	return nil
}

func (s *stage) dropAll() {
	s.t.Helper()
	for range s.bag() {
		if a := s.do(api.Step{Kind: api.StepDrop}); !reflect.DeepEqual(a, api.Answer{}) {
			s.t.Fatalf("a letter that is dropped: %+v", a)
		}
	}
	if n := len(s.bag()); n != 0 {
		s.t.Fatalf("%d letters were not dropped", n)
	}
}

func (s *stage) stock(me int) api.Stock {
	s.t.Helper()
	k := stockOf(s.see(me), "k")
	if k == nil {
		s.t.Fatalf("%d does not know k", me)
	}
	return *k
}

func stockOf(s api.Sight, name string) *api.Stock {
	for i := range s.Stocks {
		if s.Stocks[i].Name == name {
			return &s.Stocks[i]
		}
	}
	return nil
}

// wantAnswer asserts all of a step's answer: an error alone, or these replies alone.
func (s *stage) wantAnswer(what string, a api.Answer, e api.Errno, replies ...api.Reply) {
	s.t.Helper()
	if !reflect.DeepEqual(a, api.Answer{Err: e, Replies: replies}) {
		s.t.Errorf("%s: %+v; want %d, %+v", what, a, e, replies)
	}
}

func (s *stage) wantReplies(what string, got []api.Reply, want ...api.Reply) {
	s.t.Helper()
	if len(got)+len(want) > 0 && !reflect.DeepEqual(got, want) {
		s.t.Errorf("%s: the replies %+v; want %+v", what, got, want)
	}
}

// wantKinds asserts which kinds of messages lie in the bag, acknowledgements left aside.
func (s *stage) wantKinds(what string, kinds ...int) {
	s.t.Helper()
	var got []int
	for _, l := range s.bag() {
		if m, there := message(s.t, l.Data); there {
			got = append(got, m.Kind)
		}
	}
	if len(got)+len(kinds) > 0 && !reflect.DeepEqual(got, kinds) {
		s.t.Errorf("%s: the bag has messages of the kinds %v; want %v", what, got, kinds)
	}
}

// wantWitness asserts all effects so far.
func (s *stage) wantWitness(what string, want ...api.Effect) {
	s.t.Helper()
	got := s.witness()
	if len(got)+len(want) > 0 && !reflect.DeepEqual(got, want) {
		s.t.Errorf("%s: the witness\n%+v\nwant\n%+v", what, got, want)
	}
}

// message is what a frame of a replica carries; false: it is an acknowledgement alone.
func message(t *testing.T, data []byte) (api.Msg, bool) {
	t.Helper()
	payload, e := frame.Open(data)
	if e != api.OK {
		t.Fatalf("a letter that does not open: % x", data)
	}
	s, _, e := wire.DecodeSegment(payload)
	if e != api.OK {
		t.Fatalf("a letter without a segment: % x", payload)
	}
	if s.Seq == 0 {
		return api.Msg{}, false
	}
	m, _, e := wire.Decode(s.Data)
	if e != api.OK {
		t.Fatalf("a segment without a message: %+v", s)
	}
	return m, true
}

// sealed is a frame with a segment.
func sealed(t *testing.T, s api.Segment) []byte {
	t.Helper()
	payload, e := wire.EncodeSegment(s)
	if e != api.OK {
		t.Fatalf("no segment: %+v", s)
	}
	data, e := frame.Seal(payload)
	if e != api.OK {
		t.Fatalf("no frame: %d bytes", len(payload))
	}
	return data
}

func requested(t *testing.T, c api.Call, o api.Op) []byte {
	t.Helper()
	data, e := wire.EncodeRequest(c, o)
	if e != api.OK {
		t.Fatalf("no request: %+v, %+v", c, o)
	}
	return data
}

func sameLetters(a, b []api.Letter) bool {
	if len(a) != len(b) {
		return false
	}
	for i := range a {
		if a[i].From != b[i].From || a[i].To != b[i].To || !bytes.Equal(a[i].Data, b[i].Data) {
			return false
		}
	}
	return true
}

func id(session, id int) api.Call { return api.Call{Session: session, Id: id} }

func reply(c api.Call, e api.Errno, value int) api.Reply {
	return api.Reply{Call: c, Err: e, Value: value}
}

func effect(step int, c api.Call, o api.Op, e api.Errno, value int) api.Effect {
	return api.Effect{Step: step, Call: c, Op: o, Err: e, Value: value}
}

// op has A and B, as far as they are said.
func op(kind int, name string, ab ...int) api.Op {
	o := api.Op{Kind: kind, Name: name}
	if len(ab) > 0 {
		o.A = ab[0]
	}
	if len(ab) > 1 {
		o.B = ab[1]
	}
	return o
}

func rights(down, up int) api.Rights { return api.Rights{Down: down, Up: up} }

func epochOf(round, rank int) api.Epoch { return api.Epoch{Round: round, Rank: rank} }
