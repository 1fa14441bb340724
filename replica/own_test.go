package replica_test

import (
	"bytes"
	"reflect"
	"slices"
	"strings"
	"testing"

	"sluice/api"
	"sluice/replica"
	"sluice/wire"
)

// roomy is bytes with spare room behind them, filled.
func roomy(data []byte) []byte {
	b := append(bytes.Clone(data), bytes.Repeat([]byte{0xA5}, 40)...)
	return b[:len(data)]
}

// spoil overwrites bytes, spare room included, once they have been handed in; before that they must be as they were.
func spoil(t *testing.T, b, was []byte) {
	t.Helper()
	whole := b[:cap(b)]
	if !bytes.Equal(b, was) || slices.ContainsFunc(whole[len(b):len(b)+40], func(c byte) bool { return c != 0xA5 }) {
		t.Errorf("what was handed in has changed: % x", whole)
	}
	for i := range whole {
		whole[i] = 0xFF
	}
}

// Frames and requests are neither changed nor kept, also where a frame waits till its turn has come.
func TestP1411NotKept(t *testing.T) {
	b := first(t)
	frames := [][]byte{b.sealed(1, give("k", 10, rights(1, 0))), b.sealed(1, give("k", 10, rights(2, 0)))}
	for _, i := range []int{1, 0} {
		data := roomy(frames[i])
		if _, e := b.r.Frame(data); e != api.OK {
			t.Fatal(e)
		}
		spoil(t, data, frames[i])
	}
	b.wantStock(api.Stock{Name: "k", Cap: 10, Rights: rights(3, 0), About: 3})
	request, _ := wire.EncodeRequest(id(0, 1), read("q"))
	data := roomy(request)
	if _, e := b.r.Request(data); e != api.OK {
		t.Fatal(e)
	}
	spoil(t, data, request)
	acts := b.hear(2, give("q", 10, rights(5, 5)), told(id(0, 1), "q", api.OK, 10))
	wantEffects(t, acts, effect(id(0, 1), read("q"), api.OK, 5))
}

// A name is a text, not the longer one that it was cut out of.
func TestP1403NameNotKept(t *testing.T) {
	b := first(t)
	long := strings.Repeat("x", 1000) + "k"
	b.waits(0, dec(long[1000:], 1))
	b.hear(1, give("k", 10, rights(1, 0)))
	acts := b.hear(1, told(id(0, 1), "k", api.OK, 10))
	wantEffects(t, acts, effect(id(0, 1), dec("k", 1), api.OK, 0))
}

// What is answered is new memory: spoiling it changes nothing.
func TestP1415NewMemory(t *testing.T) {
	c := config()
	c.Window, c.Resend = 1, 3
	play := func(spoiled bool) []api.Sight {
		b := placed(t, c, 0)
		var sights []api.Sight
		look := func(acts api.Acts) {
			if spoiled {
				spoilActs(acts)
				spoilSight(b.r.See())
			}
			sights = append(sights, b.r.See())
		}
		look(b.call(0, create("a", 10, 6)))
		look(b.hear(1, give("k", 10, rights(4, 2)), give("q", 10, rights(4, 2))))
		look(b.call(0, read("k")))
		look(b.call(3, dec("k", 1)))
		look(b.hear(2, mark("q", 10, at(1, 2))))
		for range 9 {
			acts := b.tick()
			look(acts)
		}
		look(b.hear(2, yield("k", 10, at(1, 0), rights(0, 4), 0)))
		look(b.hear(2, grant("q", 10, at(1, 2), rights(1, 2))))
		look(b.listen(1))
		look(b.listen(1))
		look(b.tick())
		return sights
	}
	clean, spoiled := play(false), play(true)
	for i := range clean {
		if !reflect.DeepEqual(clean[i], spoiled[i]) {
			t.Errorf("the step %d: %+v\nwant %+v", i, spoiled[i], clean[i])
		}
	}
}

func spoilActs(a api.Acts) {
	for i := range a.Frames {
		spoilBytes(a.Frames[i].Data)
		a.Frames[i] = api.Letter{From: 99}
	}
	for i := range a.Replies {
		a.Replies[i] = api.Reply{Value: 99}
	}
	for i := range a.Effects {
		a.Effects[i] = api.Effect{Value: 99}
	}
}

func spoilBytes(b []byte) {
	b = b[:cap(b)]
	for i := range b {
		b[i] ^= 0xFF
	}
}

func spoilSight(s api.Sight) {
	for i := range s.Stocks {
		for j := range s.Stocks[i].Live {
			s.Stocks[i].Live[j] = at(99, 1)
		}
		s.Stocks[i] = api.Stock{Name: "z"}
	}
	for i := range s.Out {
		for j := range s.Out[i] {
			for k := range s.Out[i][j].Views {
				s.Out[i][j].Views[k] = api.View{Name: "z"}
			}
			s.Out[i][j] = api.Msg{Kind: 99}
		}
		for j := range s.Under[i] {
			spoilBytes(s.Under[i][j].Data)
			s.Under[i][j] = api.Segment{Seq: 99}
		}
		s.Next[i] = 99
	}
	for i := range s.Calls {
		s.Calls[i] = id(99, 99)
	}
}

// Two replicas of one number have nothing in common.
func TestP1401TwoReplicas(t *testing.T) {
	one, two := first(t), first(t)
	fresh := two.r.See()
	one.want(0, create("a", 10, 6), api.OK, 0)
	one.waits(0, read("k"))
	one.tick()
	one.r.Frame(nil)
	if s := two.r.See(); !reflect.DeepEqual(s, fresh) {
		t.Errorf("the other one: %+v", s)
	}
	two.want(0, dec("a", 1), api.ErrNone, 0)
	one.want(0, dec("a", 1), api.OK, 0)
}

// steps are what bytes say, handed to one replica of some: calls, ticks, frames of peers with all kinds of messages, and
// bytes that are nothing. All that is answered is told.
type steps struct {
	c    api.Config
	me   int
	r    *replica.Replica
	last [api.MaxReplicas]int
	ids  map[int]int
	in   []byte
}

func (s *steps) next(n int) int {
	if len(s.in) == 0 {
		return 0
	}
	b := int(s.in[0])
	s.in = s.in[1:]
	return b % n
}

func (s *steps) number() int {
	return []int{0, 1, 2, 3, 4, 5, 7, 9, 10, 12, 16, 17, 32, 1000, maxCap, maxRound + 1}[s.next(16)]
}

func (s *steps) name() string { return playNames[s.next(len(playNames))] }

func (s *steps) epoch() api.Epoch {
	e := at(1+s.next(6), s.next(s.c.Replicas+1))
	if s.next(30) == 0 {
		e.Round = maxRound - s.next(2)
	}
	return e
}

func (s *steps) rights() api.Rights {
	r := rights(s.next(6), s.next(6))
	if s.next(20) == 0 {
		r.Down = maxCap
	}
	return r
}

func (s *steps) op() api.Op {
	return op(s.next(13), s.name(), s.number(), s.next(3)*s.number())
}

func (s *steps) call() api.Call { return id(s.next(s.c.Sessions), 1+s.next(4)) }

func (s *steps) message() api.Msg {
	m := api.Msg{Kind: 1 + s.next(10)}
	switch m.Kind {
	case api.MsgAsk:
		m.Call, m.Op = s.call(), s.op()
		return m
	case api.MsgDigest:
		for _, name := range playNames {
			if s.next(3) == 0 {
				m.Views = append(m.Views, api.View{Name: name, Cap: 1 + s.next(20), Recaps: s.next(3), Version: s.next(5), Rights: s.rights(), Held: s.next(3)})
			}
		}
		return m
	}
	m.Name, m.Cap, m.Recaps = s.name(), 1+s.next(20), s.next(4)*s.next(2)
	switch m.Kind {
	case api.MsgTold:
		m.Call = s.call()
		m.Err = []api.Errno{api.OK, api.ErrExists, api.ErrNone, api.ErrCap}[s.next(4)]
		if m.Err != api.OK && m.Err != api.ErrExists {
			m.Cap, m.Recaps = 0, 0
		}
		return m
	case api.MsgMark, api.MsgYield, api.MsgGrant, api.MsgAbort, api.MsgOver:
		m.Epoch = s.epoch()
	}
	switch m.Kind {
	case api.MsgOver:
		m.Over = s.epoch()
	case api.MsgYield:
		m.Held = s.next(4)
		fallthrough
	case api.MsgGrant, api.MsgAbort, api.MsgWant, api.MsgGive:
		m.Rights = s.rights()
	}
	return m
}

func (s *steps) step(t *testing.T) (acts api.Acts, e api.Errno) {
	switch x := s.next(16); {
	case x < 6:
		c := s.call()
		if s.next(8) > 0 {
			c = id(s.me+s.c.Replicas*s.next(2), 0)
			c.Id = s.ids[c.Session] + 1
		}
		if acts, e = s.r.Call(c, s.op()); e == api.OK {
			s.ids[c.Session] = max(s.ids[c.Session], c.Id)
		}
	case x < 13:
		return s.r.Frame(s.frame(t))
	case x < 14:
		return s.r.Tick(), api.OK
	default:
		n := min(s.next(9), len(s.in))
		data := s.in[:n]
		s.in = s.in[n:]
		if x == 14 {
			return s.r.Frame(data)
		}
		return s.r.Request(data)
	}
	return acts, e
}

// frame is one of a peer's, mostly in turn, which acknowledges some of what has gone.
func (s *steps) frame(t *testing.T) []byte {
	t.Helper()
	from := s.next(s.c.Replicas)
	if from == s.me {
		from = (from + 1) % s.c.Replicas
	}
	data := []byte{byte(s.next(256))}
	if m := s.message(); s.next(20) > 0 {
		if b, e := wire.Encode(m); e == api.OK {
			data = b
		}
	}
	ack := 0
	if under := s.r.See().Under[from]; len(under) > 0 {
		ack = under[s.next(len(under))].Seq * s.next(2)
	}
	seq := s.last[from] + 1
	if s.next(12) > 0 {
		s.last[from] = seq
	} else {
		seq = max(1, seq+s.next(4)-2)
	}
	return sealedSegment(t, api.Segment{From: from, To: s.me, Seq: seq, Ack: ack, Data: data})
}

// play tells all that a replica answers to the steps that bytes say; what it asserts holds for any frames.
func play(t *testing.T, in []byte) []any {
	t.Helper()
	s := &steps{c: config(), ids: map[int]int{}, in: bytes.Clone(in)}
	s.c.Window, s.c.Timeout, s.c.Resend = 1+s.next(3), 1+s.next(9), 1+s.next(3)
	s.me = s.next(3)
	s.r = placed(t, s.c, s.me).r
	var told []any
	for len(s.in) > 0 {
		before := s.r.See()
		acts, e := s.step(t)
		after := s.r.See()
		if e != api.OK {
			before.Drops = after.Drops
			if !reflect.DeepEqual(acts, api.Acts{}) || !reflect.DeepEqual(before, after) {
				t.Fatalf("%d, and something has happened: %+v", e, acts)
			}
		}
		wantSound(t, s.c, after)
		told = append(told, acts, e, after)
	}
	return told
}

// wantSound asserts what holds of a sight behind any frames.
func wantSound(t *testing.T, c api.Config, s api.Sight) {
	t.Helper()
	if len(s.Calls) > c.Queue || !slices.IsSortedFunc(s.Stocks, func(a, b api.Stock) int { return strings.Compare(a.Name, b.Name) }) {
		t.Fatalf("%+v", s)
	}
	for _, k := range s.Stocks {
		if k.Rights.Down < 0 || k.Rights.Up < 0 || k.Got.Down < 0 || k.Got.Up < 0 || k.Held < 0 || k.Rights.Down+k.Rights.Up+k.Got.Down+k.Got.Up+k.Held > k.Cap {
			t.Fatalf("%+v", k)
		}
		if len(k.Live) == 0 && k.Wait > 0 || k.Own == at(0, 0) && len(k.Live) > 0 && k.Rights != rights(0, 0) {
			t.Fatalf("%+v", k)
		}
	}
	for to, box := range s.Out {
		if len(box) > 0 && len(s.Under[to]) < c.Window {
			t.Fatalf("there is room for what stands in the outbox for %d: %+v", to, box)
		}
	}
}

// Whatever comes, frames from nowhere among it: every call ends, an error changes nothing, and the same inputs lead to the
// same answers.
func TestP1412AnyFrames(t *testing.T) {
	d := dice(1403)
	for range 250 {
		in := make([]byte, 1500)
		for i := range in {
			in[i] = byte(d.roll(256))
		}
		if !reflect.DeepEqual(play(t, in), play(t, in)) {
			t.Fatal("the same steps are answered otherwise")
		}
	}
}

func FuzzPlay(f *testing.F) {
	f.Add([]byte{})
	f.Add([]byte("\x01\x05\x02\x00\x00\x05\x01\x00\x08\x01\x05\x06\x03\x01\x02\x03\x0d\x0d\x0d"))
	f.Add(bytes.Repeat([]byte{0, 6, 13, 3, 9, 200, 77}, 60))
	f.Fuzz(func(t *testing.T, in []byte) { play(t, in) })
}
