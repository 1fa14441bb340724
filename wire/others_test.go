package wire_test

import (
	"bytes"
	"math"
	"strings"
	"testing"

	"sluice/api"
	"sluice/wire"
)

func fineSegment(t *testing.T, s api.Segment) {
	t.Helper()
	want := partBytes(segmentParts(s))
	if b, e := wire.EncodeSegment(s); e != api.OK || !bytes.Equal(b, want) {
		t.Errorf("%+v: % x, %d; want % x", s, b, e, want)
	}
	if r, at, e := wire.DecodeSegment(want); e != api.OK || at != 0 || !sameSegment(r, s) {
		t.Errorf("% x: %+v, %d, %d; want %+v", want, r, at, e, s)
	}
}

func refusedSegment(t *testing.T, s api.Segment) {
	t.Helper()
	if b, e := wire.EncodeSegment(s); e != api.ErrMsg || len(b) != 0 {
		t.Errorf("a segment from %d to %d, %d, %d, of %d bytes: % x, %d; want ErrMsg", s.From, s.To, s.Seq, s.Ack, len(s.Data), b, e)
	}
}

// TestP206Numbers: a segment's numbers at their bounds, and one beyond them.
func TestP206Numbers(t *testing.T) {
	for _, x := range []struct {
		high int
		set  func(s *api.Segment, n int)
	}{
		{15, func(s *api.Segment, n int) { s.From = n }}, {15, func(s *api.Segment, n int) { s.To = n }},
		{api.MaxSeq, func(s *api.Segment, n int) { s.Seq = n }}, {api.MaxSeq, func(s *api.Segment, n int) { s.Ack = n }},
	} {
		for _, n := range []int{0, 1, 2, x.high - 1, x.high} {
			s := api.Segment{From: 2, To: 3, Seq: 4, Ack: 5, Data: []byte{6, 7}}
			x.set(&s, n)
			if s.Seq == 0 {
				s.Data = nil
			}
			fineSegment(t, s)
		}
		for _, n := range []int{-1, x.high + 1, math.MinInt64, math.MaxInt64} {
			for _, s := range []api.Segment{{From: 2, To: 3, Seq: 4, Ack: 5, Data: []byte{6, 7}}, {From: 2, To: 3, Ack: 5}} {
				x.set(&s, n)
				refusedSegment(t, s)
			}
		}
	}
}

// TestP206Data: how many bytes a segment may have, by its Seq.
func TestP206Data(t *testing.T) {
	d := dice(3)
	for _, seq := range []int{1, 2, api.MaxSeq} {
		for _, n := range []int{1, 2, 127, 128, 3999, 4000} {
			fineSegment(t, api.Segment{From: 1, Seq: seq, Data: d.bytes(n)})
		}
		for _, n := range []int{0, 4001, 4096, 5000} {
			refusedSegment(t, api.Segment{From: 1, Seq: seq, Data: d.bytes(n)})
		}
	}
	for _, none := range [][]byte{nil, {}, make([]byte, 0, 4)} {
		fineSegment(t, api.Segment{To: 1, Ack: 7, Data: none})
		refusedSegment(t, api.Segment{To: 1, Seq: 1, Data: none})
	}
	for _, n := range []int{1, 4000, 4001} {
		refusedSegment(t, api.Segment{To: 1, Ack: 7, Data: make([]byte, n)})
	}
}

// TestP206Examples: the segments of chapter 2's table.
func TestP206Examples(t *testing.T) {
	for _, x := range []struct {
		s api.Segment
		b string
	}{
		{api.Segment{}, "00 00 00 00 00"},
		{api.Segment{To: 1, Ack: 7}, "00 01 00 07 00"},
		{api.Segment{To: 1, Seq: 1, Data: []byte{10, 0}}, "00 01 01 00 02 0A 00"},
		{api.Segment{From: 15, To: 2, Seq: 300, Ack: 3, Data: []byte{255, 0, 128}}, "0F 02 AC 02 03 03 FF 00 80"},
	} {
		if b, e := wire.EncodeSegment(x.s); e != api.OK || !bytes.Equal(b, raw(x.b)) {
			t.Errorf("%+v: % x, %d; want %s", x.s, b, e, x.b)
		}
		if s, at, e := wire.DecodeSegment(raw(x.b)); e != api.OK || at != 0 || !sameSegment(s, x.s) {
			t.Errorf("%s: %+v, %d, %d", x.b, s, at, e)
		}
	}
}

// TestP206Every: many segments, against the promise's parts.
func TestP206Every(t *testing.T) {
	d := dice(2)
	for range 300 {
		fineSegment(t, d.segment())
	}
}

var goodCalls = []api.Call{{Id: 1}, {Session: 63, Id: 1}, {Id: api.MaxRequest}, {Session: 63, Id: api.MaxRequest}, {Session: 5, Id: 300}}

var badCalls = []api.Call{{}, {Id: -1}, {Id: api.MaxRequest + 1}, {Session: -1, Id: 1}, {Session: 64, Id: 1}, {Session: 3}, {Session: math.MinInt64, Id: 1}, {Session: math.MaxInt64, Id: 1}, {Id: math.MinInt64}, {Id: math.MaxInt64}}

func fineRequest(t *testing.T, c api.Call, o api.Op) {
	t.Helper()
	want := partBytes(requestParts(c, o))
	if b, e := wire.EncodeRequest(c, o); e != api.OK || !bytes.Equal(b, want) {
		t.Errorf("%+v, %+v: % x, %d; want % x", c, o, b, e, want)
	}
	if d, p, at, e := wire.DecodeRequest(want); e != api.OK || at != 0 || d != c || p != o {
		t.Errorf("% x: %+v, %+v, %d, %d; want %+v, %+v", want, d, p, at, e, c, o)
	}
}

func refusedRequest(t *testing.T, c api.Call, o api.Op) {
	t.Helper()
	if b, e := wire.EncodeRequest(c, o); e != api.ErrMsg || len(b) != 0 {
		t.Errorf("%+v, %+v: % x, %d; want ErrMsg", c, o, b, e)
	}
}

// TestP207Requests: requests at the bounds of their call and op, and beyond them.
func TestP207Requests(t *testing.T) {
	call, op := api.Call{Session: 3, Id: 1}, api.Op{Kind: api.OpInc, Name: "k", A: 5}
	for _, c := range goodCalls {
		fineRequest(t, c, op)
	}
	for _, c := range badCalls {
		refusedRequest(t, c, op)
	}
	for kind := -2; kind <= 15; kind++ {
		if o := (api.Op{Kind: kind, Name: "k"}); kind >= 1 && kind <= 11 {
			fineRequest(t, call, o)
		} else {
			refusedRequest(t, call, o)
		}
	}
	for _, s := range goodNames {
		fineRequest(t, call, api.Op{Kind: api.OpLook, Name: s})
	}
	for _, s := range badNames {
		refusedRequest(t, call, api.Op{Kind: api.OpLook, Name: s})
	}
	for _, n := range []int{0, 1, -1, math.MaxInt64, math.MinInt64, 1 << 40} {
		fineRequest(t, call, api.Op{Kind: api.OpTake, Name: strings.Repeat("x", 16), A: n, B: 7})
		fineRequest(t, call, api.Op{Kind: api.OpTake, Name: "x", A: 7, B: n})
	}
	if b, e := wire.EncodeRequest(call, op); e != api.OK || !bytes.Equal(b, raw("03 01 02 01 6B 0A 00")) {
		t.Errorf("% x, %d", b, e)
	}
}

func fineReply(t *testing.T, r api.Reply) {
	t.Helper()
	want := partBytes(replyParts(r))
	if b, e := wire.EncodeReply(r); e != api.OK || !bytes.Equal(b, want) {
		t.Errorf("%+v: % x, %d; want % x", r, b, e, want)
	}
	if x, at, e := wire.DecodeReply(want); e != api.OK || at != 0 || x != r {
		t.Errorf("% x: %+v, %d, %d; want %+v", want, x, at, e, r)
	}
}

func refusedReply(t *testing.T, r api.Reply) {
	t.Helper()
	if b, e := wire.EncodeReply(r); e != api.ErrMsg || len(b) != 0 {
		t.Errorf("%+v: % x, %d; want ErrMsg", r, b, e)
	}
}

// TestP207Replies: replies at their bounds, and beyond them.
func TestP207Replies(t *testing.T) {
	for _, c := range goodCalls {
		fineReply(t, api.Reply{Call: c, Err: api.ErrRights})
	}
	for _, c := range badCalls {
		refusedReply(t, api.Reply{Call: c})
	}
	for err := range api.Errno(256) {
		fineReply(t, api.Reply{Call: api.Call{Id: 1}, Err: err, Value: int(err) - 100})
	}
	for _, err := range []api.Errno{-1, 256, 300, math.MinInt64, math.MaxInt64} {
		refusedReply(t, api.Reply{Call: api.Call{Id: 1}, Err: err})
	}
	for _, n := range []int{0, 1, -1, 150, math.MaxInt64, math.MinInt64} {
		fineReply(t, api.Reply{Call: api.Call{Id: 1}, Value: n})
		fineReply(t, api.Reply{Call: api.Call{Id: 1}, Err: 255, Value: n})
	}
	if b, e := wire.EncodeReply(api.Reply{Call: api.Call{Id: 9}, Value: -3}); e != api.OK || !bytes.Equal(b, raw("00 09 00 05")) {
		t.Errorf("% x, %d", b, e)
	}
}

// TestP207Every: many requests and replies, against the promise's parts.
func TestP207Every(t *testing.T) {
	d := dice(4)
	for range 1000 {
		fineRequest(t, d.call(), d.op())
		fineReply(t, d.reply())
	}
}
