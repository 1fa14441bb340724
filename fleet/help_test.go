package fleet_test

import (
	"bytes"
	"encoding/binary"
	"reflect"
	"slices"
	"testing"

	"sluice/api"
	"sluice/fleet"
	"sluice/frame"
	"sluice/names"
	"sluice/wire"
)

const imageSize = 2048 * 512

// dice: numbers that hang on its beginning alone.
type dice uint64

func (d *dice) roll(n int) int {
	*d = *d*6364136223846793005 + 1442695040888963407
	return int(uint64(*d) >> 33 % uint64(n))
}

func (d *dice) bytes(n int) []byte {
	b := make([]byte, n)
	for i := range b {
		b[i] = byte(d.roll(256))
	}
	return b
}

// config is that of the chapter's examples.
func config() api.Config {
	return api.Config{Replicas: 2, Window: 2, Resend: 2, Timeout: 20, Queue: 4, Cache: 2, Counters: 2, Holds: 2, Sessions: 4, Bag: 50}
}

// home is the replica at which k is at home, and the other one; the session of each has its number.
func home() (h, o int) {
	h = names.Home("k", 2)
	return h, 1 - h
}

// stage is a fleet whose steps are counted.
type stage struct {
	t    *testing.T
	all  *fleet.Fleet
	c    api.Config
	step int
}

func staged(t *testing.T, c api.Config) *stage {
	t.Helper()
	all, e := fleet.New(c)
	if e != api.OK || all == nil {
		t.Fatalf("New(%+v): %v, %d", c, all, e)
	}
	return &stage{t: t, all: all, c: c}
}

// begun is a fleet of the examples, in which k is made.
func begun(t *testing.T) (s *stage, h, o int) {
	t.Helper()
	s = staged(t, config())
	h, o = home()
	s.wantAnswer("OpCreate", s.call(h, 1, api.OpCreate, 10, 4), api.OK, reply(id(h, 1), api.OK, 0))
	return s, h, o
}

func (s *stage) do(step api.Step) api.Answer {
	s.step++
	return s.all.Do(step)
}

// asked is a call about k of the session that is called as its replica.
func asked(me, number, kind int, ab ...int) api.Step {
	return api.Step{Kind: api.StepCall, Replica: me, Call: id(me, number), Op: op(kind, "k", ab...)}
}

func (s *stage) call(me, number, kind int, ab ...int) api.Answer {
	return s.do(asked(me, number, kind, ab...))
}

func (s *stage) tick(me int) api.Answer { return s.do(api.Step{Kind: api.StepTick, Replica: me}) }

func (s *stage) frame(me int, data []byte) api.Answer {
	return s.do(api.Step{Kind: api.StepFrame, Replica: me, Data: data})
}

func (s *stage) deliver(i int) api.Answer { return s.do(api.Step{Kind: api.StepDeliver, I: i}) }

func (s *stage) crash(me int) api.Answer { return s.do(api.Step{Kind: api.StepCrash, Replica: me}) }

func (s *stage) restart(me int) api.Answer { return s.do(api.Step{Kind: api.StepRestart, Replica: me}) }

func (s *stage) arm(me, after, torn int) {
	s.t.Helper()
	s.wantAnswer("StepArm", s.do(api.Step{Kind: api.StepArm, Replica: me, I: after, J: torn}), api.OK)
}

func (s *stage) look(me int) api.Answer { return s.do(api.Step{Kind: api.StepSee, Replica: me}) }

func (s *stage) see(me int) api.Sight { return s.look(me).Sight }

func (s *stage) isUp(me int) bool { return s.look(me).Up }

func (s *stage) image(me int) []byte {
	return s.do(api.Step{Kind: api.StepImage, Replica: me}).Image
}

func (s *stage) bag() []api.Letter { return s.do(api.Step{Kind: api.StepBag}).Bag }

func (s *stage) witness() []api.Effect { return s.do(api.Step{Kind: api.StepWitness}).Witness }

func (s *stage) sights() []api.Sight {
	var list []api.Sight
	for me := range s.c.Replicas {
		list = append(list, s.see(me))
	}
	return list
}

// view is all that is to be seen, but for the number of steps.
type view struct {
	looks   []api.Answer
	images  [][]byte
	bag     []api.Letter
	witness []api.Effect
}

func (s *stage) view() view {
	v := view{bag: s.bag(), witness: s.witness()}
	for me := range s.c.Replicas {
		v.looks = append(v.looks, s.look(me))
		v.images = append(v.images, s.image(me))
	}
	return v
}

// wantView asserts that all is to be seen as it was.
func (s *stage) wantView(what string, want view) {
	s.t.Helper()
	got := s.view()
	for me := range got.images {
		if !bytes.Equal(got.images[me], want.images[me]) {
			s.t.Errorf("%s: the disk of %d has changed", what, me)
		}
	}
	got.images, want.images = nil, nil
	if !reflect.DeepEqual(got, want) {
		s.t.Errorf("%s: something has changed: %+v\nwant %+v", what, got, want)
	}
}

// deliverAll delivers till the bag is empty: the replies that come. Replicas that are down lose their letters.
func (s *stage) deliverAll() []api.Reply {
	s.t.Helper()
	var replies []api.Reply
	for range 1000 {
		if len(s.bag()) == 0 {
			return replies
		}
		a := s.deliver(0)
		if a.Err != api.OK && a.Err != api.ErrDown {
			s.t.Fatalf("a frame that was sent: %d", a.Err)
		}
		replies = append(replies, a.Replies...)
	}
	s.t.Fatalf("the bag is never empty: %+v", s.bag())
	return nil
}

// wantAnswer asserts all of a step's answer: an error alone, or these replies alone.
func (s *stage) wantAnswer(what string, a api.Answer, e api.Errno, replies ...api.Reply) {
	s.t.Helper()
	if !reflect.DeepEqual(a, api.Answer{Err: e, Replies: replies}) {
		s.t.Errorf("%s: %+v; want %d, %+v", what, a, e, replies)
	}
}

func (s *stage) wantWitness(what string, want ...api.Effect) {
	s.t.Helper()
	if got := s.witness(); !slices.Equal(got, want) {
		s.t.Errorf("%s: the witness\n%+v\nwant\n%+v", what, got, want)
	}
}

func (s *stage) wantUp(what string, me int, want bool) {
	s.t.Helper()
	if got := s.isUp(me); got != want {
		s.t.Errorf("%s: %d is up: %v, want %v", what, me, got, want)
	}
}

// wantSight asserts what is to be seen of a replica, whether it is up or not.
func (s *stage) wantSight(what string, me int, up bool, want api.Sight) {
	s.t.Helper()
	if got := s.look(me); !reflect.DeepEqual(got, api.Answer{Sight: want, Up: up}) {
		s.t.Errorf("%s: %+v\nwant %v, %+v", what, got, up, want)
	}
}

// message is what a frame of a replica carries; false: it is an acknowledgement alone.
func message(t *testing.T, data []byte) (api.Msg, bool) {
	t.Helper()
	payload, e := frame.Open(data)
	if e != api.OK {
		t.Fatalf("a letter that does not open: % x", data)
	}
	s, _, e := wire.DecodeSegment(payload)
	if e != api.OK {
		t.Fatalf("a letter without a segment: % x", payload)
	}
	if s.Seq == 0 {
		return api.Msg{}, false
	}
	m, _, e := wire.Decode(s.Data)
	if e != api.OK {
		t.Fatalf("a segment without a message: %+v", s)
	}
	return m, true
}

// wantKinds asserts which kinds of messages lie in the bag, acknowledgements left aside.
func (s *stage) wantKinds(what string, kinds ...int) {
	s.t.Helper()
	var got []int
	for _, l := range s.bag() {
		if m, there := message(s.t, l.Data); there {
			got = append(got, m.Kind)
		}
	}
	if !slices.Equal(got, kinds) {
		s.t.Errorf("%s: the bag has messages of the kinds %v; want %v", what, got, kinds)
	}
}

// sealed is a frame with a segment.
func sealed(t *testing.T, s api.Segment) []byte {
	t.Helper()
	payload, e := wire.EncodeSegment(s)
	if e != api.OK {
		t.Fatalf("no segment: %+v", s)
	}
	data, e := frame.Seal(payload)
	if e != api.OK {
		t.Fatalf("no frame: %d bytes", len(payload))
	}
	return data
}

func requested(t *testing.T, c api.Call, o api.Op) []byte {
	t.Helper()
	data, e := wire.EncodeRequest(c, o)
	if e != api.OK {
		t.Fatalf("no request: %+v, %+v", c, o)
	}
	return data
}

func sameLetters(a, b []api.Letter) bool {
	return slices.EqualFunc(a, b, func(x, y api.Letter) bool {
		return x.From == y.From && x.To == y.To && bytes.Equal(x.Data, y.Data)
	})
}

func id(session, number int) api.Call { return api.Call{Session: session, Id: number} }

func reply(c api.Call, e api.Errno, value int) api.Reply {
	return api.Reply{Call: c, Err: e, Value: value}
}

func effect(step int, c api.Call, o api.Op, e api.Errno, value int) api.Effect {
	return api.Effect{Step: step, Call: c, Op: o, Err: e, Value: value}
}

// op has A and B, as far as they are said.
func op(kind int, name string, ab ...int) api.Op {
	o := api.Op{Kind: kind, Name: name}
	if len(ab) > 0 {
		o.A = ab[0]
	}
	if len(ab) > 1 {
		o.B = ab[1]
	}
	return o
}

// callForm tells the bytes of a call as an input, as the library writes signed numbers.
func callForm(c api.Call, o api.Op) []byte {
	b := []byte{1}
	for _, n := range []int{c.Session, c.Id, o.Kind, o.A, o.B} {
		b = binary.AppendVarint(b, int64(n))
	}
	return append(b, o.Name...)
}

// dataForm tells those of an input of a kind with these bytes; 4 is a tick.
func dataForm(kind byte, data []byte) []byte { return append([]byte{kind}, data...) }

// laid tells the sectors of a record, by its number from 1 on.
func laid(number int, record []byte) []byte {
	var out []byte
	count := max(1, (len(record)+495)/496)
	for place := range count {
		kind := byte(1)
		if place == count-1 {
			kind = 2
		}
		mark := binary.LittleEndian.AppendUint32(nil, uint32(number))
		mark = append(mark, byte(place), byte(len(record)), byte(len(record)>>8), kind)
		body := make([]byte, 496)
		copy(body, record[496*place:])
		out = slices.Concat(out, mark, body, mark)
	}
	return out
}

// wantImage asserts that the disk of a replica has these records, and zeros behind them.
func (s *stage) wantImage(what string, me int, records ...[]byte) {
	s.t.Helper()
	var want []byte
	for i, b := range records {
		want = append(want, laid(i+1, b)...)
	}
	want = append(want, make([]byte, imageSize-len(want))...)
	a := s.do(api.Step{Kind: api.StepImage, Replica: me})
	if !bytes.Equal(a.Image, want) {
		s.t.Errorf("%s: the disk of %d, of %d bytes, is another one", what, me, len(a.Image))
	}
	a.Image = nil
	if !reflect.DeepEqual(a, api.Answer{}) {
		s.t.Errorf("%s: StepImage: %+v", what, a)
	}
}
