package replica_test

import (
	"math"
	"reflect"
	"testing"

	"sluice/api"
	"sluice/frame"
	"sluice/replica"
	"sluice/wire"
)

// dice: numbers that hang on its beginning alone.
type dice uint64

func (d *dice) roll(n int) int {
	*d = *d*6364136223846793005 + 1442695040888963407
	return int(uint64(*d) >> 33 % uint64(n))
}

const (
	maxCap   = api.MaxCap
	maxRound = api.MaxRound
)

var far = []int{math.MinInt64, -1 << 40, -1, math.MaxInt64}

// Of three replicas the home of a, b and d is 0, of c, j, k and m it is 1, of q it is 2.
func config() api.Config {
	return api.Config{Replicas: 3, Window: 4, Resend: 5, Timeout: 20, Queue: 4, Cache: 4, Counters: 2, Holds: 2, Sessions: 9, Bag: 50}
}

// bench is one replica of some, whose peers the test plays: what it sends them is acknowledged by the next that they say.
type bench struct {
	t    *testing.T
	r    *replica.Replica
	me   int
	last map[int]int // the number of the last segment from each peer
	gone map[int]int // the greatest number that went to each peer
	deaf bool        // nothing is acknowledged
	ids  map[int]int // the last id of each session
}

func placed(t *testing.T, c api.Config, me int) *bench {
	t.Helper()
	r, e := replica.New(c, me)
	if e != api.OK || r == nil {
		t.Fatalf("New(%+v, %d): %v, %d", c, me, r, e)
	}
	return &bench{t: t, r: r, me: me, last: map[int]int{}, gone: map[int]int{}, ids: map[int]int{}}
}

// first is the replica 0 of three.
func first(t *testing.T) *bench {
	t.Helper()
	return placed(t, config(), 0)
}

func (b *bench) note(acts api.Acts) api.Acts {
	b.t.Helper()
	for _, l := range acts.Frames {
		s := segment(b.t, l)
		if l.From != b.me || s.From != b.me || s.To != l.To {
			b.t.Errorf("a letter from %d to %d has a segment from %d to %d", l.From, l.To, s.From, s.To)
		}
		b.gone[l.To] = max(b.gone[l.To], s.Seq)
	}
	return acts
}

// next is the call that a session has next.
func (b *bench) next(session int) api.Call {
	b.ids[session]++
	return api.Call{Session: session, Id: b.ids[session]}
}

// call lets a session ask for an op, with its next id.
func (b *bench) call(session int, o api.Op) api.Acts {
	b.t.Helper()
	acts, e := b.r.Call(b.next(session), o)
	if e != api.OK {
		b.t.Fatalf("the call %d of session %d, %+v: %d", b.ids[session], session, o, e)
	}
	return b.note(acts)
}

// answered is the one reply to a call that is answered at once.
func (b *bench) answered(session int, o api.Op) (api.Errno, int) {
	b.t.Helper()
	acts := b.call(session, o)
	want := api.Call{Session: session, Id: b.ids[session]}
	if len(acts.Replies) != 1 || acts.Replies[0].Call != want {
		b.t.Fatalf("%+v is answered %+v", o, acts.Replies)
	}
	return acts.Replies[0].Err, acts.Replies[0].Value
}

// want asserts what a call is answered at once.
func (b *bench) want(session int, o api.Op, e api.Errno, value int) {
	b.t.Helper()
	if f, v := b.answered(session, o); f != e || v != value {
		b.t.Errorf("%+v is answered %d, %d; want %d, %d", o, f, v, e, value)
	}
}

// waits asserts that a call is not answered at once.
func (b *bench) waits(session int, o api.Op) api.Acts {
	b.t.Helper()
	acts := b.call(session, o)
	if len(acts.Replies) != 0 || len(acts.Effects) != 0 {
		b.t.Errorf("%+v is answered at once: %+v", o, acts)
	}
	return acts
}

// sealed puts what a peer says next into a frame.
func (b *bench) sealed(from int, m api.Msg) []byte {
	b.t.Helper()
	data, e := wire.Encode(m)
	if e != api.OK {
		b.t.Fatalf("no message: %+v", m)
	}
	b.last[from]++
	return sealedSegment(b.t, api.Segment{From: from, To: b.me, Seq: b.last[from], Ack: b.ack(from), Data: data})
}

func (b *bench) ack(peer int) int {
	if b.deaf {
		return 0
	}
	return b.gone[peer]
}

// hear lets a peer say messages; the acts of all of them.
func (b *bench) hear(from int, list ...api.Msg) api.Acts {
	b.t.Helper()
	var all api.Acts
	for _, m := range list {
		acts, e := b.r.Frame(b.sealed(from, m))
		if e != api.OK {
			b.t.Fatalf("%+v from %d: %d", m, from, e)
		}
		b.note(acts)
		all.Frames = append(all.Frames, acts.Frames...)
		all.Replies = append(all.Replies, acts.Replies...)
		all.Effects = append(all.Effects, acts.Effects...)
	}
	return all
}

// listen acknowledges all that has gone to a peer.
func (b *bench) listen(peer int) api.Acts {
	b.t.Helper()
	acts, e := b.r.Frame(sealedSegment(b.t, api.Segment{From: peer, To: b.me, Ack: b.gone[peer]}))
	if e != api.OK {
		b.t.Fatalf("an acknowledgement of %d: %d", peer, e)
	}
	return b.note(acts)
}

func (b *bench) tick() api.Acts {
	b.t.Helper()
	return b.note(b.r.Tick())
}

// ticks lets so many ticks go by; the acts of the last one. None ahead of it answers or has an effect.
func (b *bench) ticks(n int) api.Acts {
	b.t.Helper()
	for range n - 1 {
		if acts := b.tick(); len(acts.Replies)+len(acts.Effects) != 0 {
			b.t.Errorf("a tick that does something: %+v", acts)
		}
	}
	return b.tick()
}

func (b *bench) stock(name string) api.Stock {
	b.t.Helper()
	for _, s := range b.r.See().Stocks {
		if s.Name == name {
			return s
		}
	}
	b.t.Fatalf("no stock of %q", name)
	return api.Stock{}
}

func (b *bench) wantStock(want api.Stock) {
	b.t.Helper()
	if s := b.stock(want.Name); !reflect.DeepEqual(s, want) {
		b.t.Errorf("the stock %+v; want %+v", s, want)
	}
}

func (b *bench) knows(name string) bool {
	for _, s := range b.r.See().Stocks {
		if s.Name == name {
			return true
		}
	}
	return false
}

func (b *bench) frozen(name string) bool { return len(b.stock(name).Live) > 0 }

func (b *bench) wantOpen(calls ...api.Call) {
	b.t.Helper()
	if got := b.r.See().Calls; len(got)+len(calls) > 0 && !reflect.DeepEqual(got, calls) {
		b.t.Errorf("open: %v; want %v", got, calls)
	}
}

func sealedSegment(t *testing.T, s api.Segment) []byte {
	t.Helper()
	payload, e := wire.EncodeSegment(s)
	if e != api.OK {
		t.Fatalf("no segment: %+v", s)
	}
	data, e := frame.Seal(payload)
	if e != api.OK {
		t.Fatalf("no frame: %d bytes", len(payload))
	}
	return data
}

func segment(t *testing.T, l api.Letter) api.Segment {
	t.Helper()
	payload, e := frame.Open(l.Data)
	if e != api.OK {
		t.Fatalf("a letter that does not open: %+v", l)
	}
	s, _, e := wire.DecodeSegment(payload)
	if e != api.OK {
		t.Fatalf("a letter without a segment: %+v", l)
	}
	return s
}

// mail is a message that goes to a replica.
type mail struct {
	to int
	m  api.Msg
}

func mails(t *testing.T, acts api.Acts) []mail {
	t.Helper()
	var list []mail
	for _, l := range acts.Frames {
		s := segment(t, l)
		if s.Seq == 0 {
			continue
		}
		m, _, e := wire.Decode(s.Data)
		if e != api.OK {
			t.Fatalf("a segment without a message: %+v", s)
		}
		list = append(list, mail{l.To, m})
	}
	return list
}

// wantMails asserts which messages go out, acknowledgements left aside.
func wantMails(t *testing.T, acts api.Acts, want ...mail) {
	t.Helper()
	if got := mails(t, acts); len(got)+len(want) > 0 && !reflect.DeepEqual(got, want) {
		t.Errorf("sent:\n%+v\nwant:\n%+v", got, want)
	}
}

// both are the same message to the replicas 1 and 2.
func both(m api.Msg) []mail { return []mail{{1, m}, {2, m}} }

func wantReplies(t *testing.T, acts api.Acts, want ...api.Reply) {
	t.Helper()
	if len(acts.Replies)+len(want) > 0 && !reflect.DeepEqual(acts.Replies, want) {
		t.Errorf("replies %+v; want %+v", acts.Replies, want)
	}
}

func wantEffects(t *testing.T, acts api.Acts, want ...api.Effect) {
	t.Helper()
	if len(acts.Effects)+len(want) > 0 && !reflect.DeepEqual(acts.Effects, want) {
		t.Errorf("effects %+v; want %+v", acts.Effects, want)
	}
}

// wantQuiet asserts that nothing at all is asked for, an acknowledgement left aside.
func wantQuiet(t *testing.T, acts api.Acts) {
	t.Helper()
	wantMails(t, acts)
	wantReplies(t, acts)
	wantEffects(t, acts)
}

func id(session, id int) api.Call { return api.Call{Session: session, Id: id} }

func reply(c api.Call, e api.Errno, value int) api.Reply {
	return api.Reply{Call: c, Err: e, Value: value}
}

func effect(c api.Call, o api.Op, e api.Errno, value int) api.Effect {
	return api.Effect{Call: c, Op: o, Err: e, Value: value}
}

func expired(name string, hold int) api.Effect {
	return effect(id(-1, 0), op(api.OpExpire, name, hold), api.OK, 0)
}

func rights(down, up int) api.Rights { return api.Rights{Down: down, Up: up} }

func at(round, rank int) api.Epoch { return api.Epoch{Round: round, Rank: rank} }

// op has A and B, as far as they are said.
func op(kind int, name string, ab ...int) api.Op {
	o := api.Op{Kind: kind, Name: name}
	if len(ab) > 0 {
		o.A = ab[0]
	}
	if len(ab) > 1 {
		o.B = ab[1]
	}
	return o
}

func read(name string) api.Op         { return op(api.OpRead, name) }
func look(name string) api.Op         { return op(api.OpLook, name) }
func inc(name string, a int) api.Op   { return op(api.OpInc, name, a) }
func dec(name string, a int) api.Op   { return op(api.OpDec, name, a) }
func recap(name string, a int) api.Op { return op(api.OpRecap, name, a) }

func create(name string, limit, value int) api.Op { return op(api.OpCreate, name, limit, value) }

// The messages, of a counter with a cap that was not set anew.
func mark(name string, limit int, e api.Epoch) api.Msg {
	return api.Msg{Kind: api.MsgMark, Name: name, Cap: limit, Epoch: e}
}

func yield(name string, limit int, e api.Epoch, r api.Rights, held int) api.Msg {
	return api.Msg{Kind: api.MsgYield, Name: name, Cap: limit, Epoch: e, Rights: r, Held: held}
}

func grant(name string, limit int, e api.Epoch, r api.Rights) api.Msg {
	return api.Msg{Kind: api.MsgGrant, Name: name, Cap: limit, Epoch: e, Rights: r}
}

func abort(name string, limit int, e api.Epoch, r api.Rights) api.Msg {
	return api.Msg{Kind: api.MsgAbort, Name: name, Cap: limit, Epoch: e, Rights: r}
}

func over(name string, limit int, e, higher api.Epoch) api.Msg {
	return api.Msg{Kind: api.MsgOver, Name: name, Cap: limit, Epoch: e, Over: higher}
}

func want(name string, limit int, r api.Rights) api.Msg {
	return api.Msg{Kind: api.MsgWant, Name: name, Cap: limit, Rights: r}
}

func give(name string, limit int, r api.Rights) api.Msg {
	return api.Msg{Kind: api.MsgGive, Name: name, Cap: limit, Rights: r}
}

func ask(c api.Call, o api.Op) api.Msg { return api.Msg{Kind: api.MsgAsk, Call: c, Op: o} }

// told is a home's word, with a cap, if it is one that has it.
func told(c api.Call, name string, e api.Errno, limit int) api.Msg {
	return api.Msg{Kind: api.MsgTold, Call: c, Name: name, Err: e, Cap: limit}
}

func digest(list ...api.View) api.Msg { return api.Msg{Kind: api.MsgDigest, Views: list} }

func view(name string, limit, version int, r api.Rights) api.View {
	return api.View{Name: name, Cap: limit, Version: version, Rights: r}
}

// recapped is a message whose cap was set anew so often.
func recapped(m api.Msg, recaps int) api.Msg {
	m.Recaps = recaps
	return m
}
