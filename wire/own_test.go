package wire_test

import (
	"bytes"
	"math"
	"slices"
	"strings"
	"testing"

	"sluice/api"
	"sluice/wire"
)

// longest tells the message of a kind whose every field has the most bytes.
func longest(kind int) api.Msg {
	name, most := strings.Repeat("~", 16), api.MaxCap
	m := api.Msg{Kind: kind, Name: name, Cap: most, Recaps: most}
	e, r, call := api.Epoch{Round: most, Rank: 15}, api.Rights{Down: most, Up: most}, api.Call{Session: 63, Id: most}
	switch kind {
	case api.MsgAsk:
		return api.Msg{Kind: kind, Call: call, Op: api.Op{Kind: api.OpLook, Name: name, A: math.MinInt64, B: math.MaxInt64}}
	case api.MsgTold:
		m.Call, m.Err = call, api.ErrExists
	case api.MsgMark:
		m.Epoch = e
	case api.MsgYield:
		m.Epoch, m.Rights, m.Held = e, r, most
	case api.MsgGrant, api.MsgAbort:
		m.Epoch, m.Rights = e, r
	case api.MsgOver:
		m.Epoch, m.Over = e, e
	case api.MsgWant, api.MsgGive:
		m.Rights = r
	case api.MsgDigest:
		m = api.Msg{Kind: kind}
		for i := range 64 {
			v := api.View{Name: name[1:] + string(rune(33+i)), Cap: most, Recaps: most, Version: most, Rights: r, Held: most}
			m.Views = append(m.Views, v)
		}
	}
	return m
}

// TestP210Longest: the longest message of each kind and the longest segment are taken, have just so many bytes, and go into a frame.
func TestP210Longest(t *testing.T) {
	for kind, want := range map[int]int{1: 46, 2: 38, 3: 37, 4: 55, 5: 49, 6: 49, 7: 44, 8: 42, 9: 42, 10: 3394} {
		m := longest(kind)
		fine(t, m)
		if b, _ := wire.Encode(m); len(b) != want || len(b) > 3400 || len(b) >= api.MaxPayload {
			t.Errorf("the longest message of the kind %d has %d bytes, want %d", kind, len(b), want)
		}
	}
	s := api.Segment{From: 15, To: 15, Seq: api.MaxSeq, Ack: api.MaxSeq, Data: make([]byte, 4000)}
	fineSegment(t, s)
	if b, _ := wire.EncodeSegment(s); len(b) != 4016 || len(b) > 4020 || len(b) >= api.MaxPayload {
		t.Errorf("the longest segment has %d bytes", len(b))
	}
}

// TestP210MessageInSegment: the longest message has room in a segment.
func TestP210MessageInSegment(t *testing.T) {
	b, _ := wire.Encode(longest(api.MsgDigest))
	fineSegment(t, api.Segment{From: 1, Seq: 1, Data: b})
}

// guarded tells b with spare room behind it that holds what can be known again.
func guarded(b []byte) []byte {
	long := append(bytes.Clone(b), bytes.Repeat([]byte{0xA5}, 64)...)
	return long[:len(b)]
}

func intact(t *testing.T, what string, b, was []byte) {
	t.Helper()
	if spare := b[len(b):cap(b)]; !bytes.Equal(b, was) || bytes.Count(spare[:64], []byte{0xA5}) != 64 {
		t.Errorf("%s: what was handed in is changed", what)
	}
}

// TestP211BytesIn: bytes that are read are neither changed nor kept, right ones and wrong ones.
func TestP211BytesIn(t *testing.T) {
	for _, x := range samples(8) {
		whole := partBytes(x.parts)
		for _, was := range [][]byte{whole, whole[:len(whole)/2], join(whole, []byte{1})} {
			b := guarded(was)
			x.face.decode(t, b)
			intact(t, x.face.what, b, was)
		}
	}
}

// scribble turns every byte, spare room included.
func scribble(b []byte) {
	b = b[:cap(b)]
	for i := range b {
		b[i] ^= 0x5A
	}
}

// TestP211Read: what was read stands, whatever becomes of the bytes, and of what another call has answered.
func TestP211Read(t *testing.T) {
	d := dice(8)
	for range 20 {
		s := d.segment()
		b, _ := wire.EncodeSegment(s)
		first, _, _ := wire.DecodeSegment(b)
		second, _, _ := wire.DecodeSegment(b)
		was := bytes.Clone(b)
		scribble(first.Data)
		if !bytes.Equal(b, was) || !sameSegment(second, s) {
			t.Errorf("Data of what was read is shared")
		}
		scribble(b)
		if !sameSegment(second, s) {
			t.Errorf("Data of what was read is the bytes'")
		}
		for kind := api.MsgAsk; kind <= api.MsgDigest; kind++ {
			m := d.message(kind)
			b, _ := wire.Encode(m)
			first, _, _ := wire.Decode(b)
			second, _, _ := wire.Decode(b)
			clear(first.Views[:cap(first.Views)])
			scribble(b)
			if !sameMsg(second, m) {
				t.Errorf("%+v is %+v", m, second)
			}
		}
		c, o := d.call(), d.op()
		b, _ = wire.EncodeRequest(c, o)
		x, y, _, _ := wire.DecodeRequest(b)
		scribble(b)
		if x != c || y != o {
			t.Errorf("%+v, %+v is %+v, %+v", c, o, x, y)
		}
	}
}

// TestP211Written: what was written is new memory each time, its spare room too.
func TestP211Written(t *testing.T) {
	d := dice(9)
	for range 20 {
		m, s, c, o, r := d.message(1+d.roll(10)), d.segment(), d.call(), d.op(), d.reply()
		for what, encode := range map[string]func() []byte{
			"Encode":        func() []byte { b, _ := wire.Encode(m); return b },
			"EncodeSegment": func() []byte { b, _ := wire.EncodeSegment(s); return b },
			"EncodeRequest": func() []byte { b, _ := wire.EncodeRequest(c, o); return b },
			"EncodeReply":   func() []byte { b, _ := wire.EncodeReply(r); return b },
		} {
			first, second := encode(), encode()
			was := bytes.Clone(second)
			scribble(first)
			if third := encode(); !bytes.Equal(second, was) || !bytes.Equal(third, was) {
				t.Errorf("%s: two answers share memory", what)
			}
		}
	}
}

// TestP211MessageIn: a message's views and a segment's Data are neither changed nor kept, right ones and wrong ones.
func TestP211MessageIn(t *testing.T) {
	mark := api.View{Name: "spare", Cap: 7}
	for _, list := range [][]api.View{manyViews(5), {{Name: "b", Cap: 1}, {Name: "a", Cap: 1}}, {{Name: "a", Cap: 1}, {Name: "b"}}, make([]api.View, 70)} {
		was := slices.Clone(list)
		views := append(slices.Clone(list), mark)[:len(list)]
		for _, kind := range []int{api.MsgDigest, api.MsgMark} {
			wire.Valid(api.Msg{Kind: kind, Views: views})
			wire.Encode(api.Msg{Kind: kind, Views: views})
		}
		if !slices.Equal(views, was) || views[:len(was)+1][len(was)] != mark {
			t.Errorf("the views %+v have become %+v", was, views)
		}
	}
	d := dice(10)
	for _, n := range []int{1, 20, 4000, 4001} {
		data := d.bytes(n)
		for _, seq := range []int{0, 1, -1} {
			in := guarded(data)
			b, _ := wire.EncodeSegment(api.Segment{Seq: seq, Data: in})
			scribble(b)
			intact(t, "EncodeSegment", in, data)
		}
	}
}

// TestP211NothingKept: an answer hangs on its arguments alone, whatever was asked ahead of it.
func TestP211NothingKept(t *testing.T) {
	all := samples(3)
	for i, x := range all {
		whole := partBytes(x.parts)
		y := all[(i*7+5)%len(all)]
		y.face.decode(t, partBytes(y.parts)[:1])
		wire.Encode(api.Msg{Kind: api.MsgOver, Name: "k"})
		right(t, x.face, whole)
	}
}
