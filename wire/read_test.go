package wire_test

import (
	"bytes"
	"fmt"
	"strings"
	"testing"

	"sluice/api"
	"sluice/wire"
)

// TestP208Examples: the bytes of chapter 2's second table.
func TestP208Examples(t *testing.T) {
	for _, x := range []struct {
		face int
		b    string
		at   int
	}{
		{ofMessage, "", 0}, {ofMessage, "03 01", 2}, {ofMessage, "00", 0}, {ofMessage, "0B", 0}, {ofMessage, "83 00", 0},
		{ofMessage, "03 00", 1}, {ofMessage, "03 00 0A 00 02 01", 1}, {ofMessage, "03 11", 1}, {ofMessage, "03 11 6B 6B", 1},
		{ofMessage, "03 01 20 0A 00 02 01", 2}, {ofMessage, "03 01 6B 00 00 02 01", 3}, {ofMessage, "03 01 6B 0A 00 02 10", 6},
		{ofMessage, "03 01 6B 0A 00 00 01", 5}, {ofMessage, "03 01 6B 0A 00 02 01 00", 7},
		{ofMessage, "0A 02 01 6B 0A 00 01 04 06 00 01 6B", 11}, {ofMessage, "0A 02 01 6B 0A 00 01 04 06 00 01 6B 0A 00 01 04 06 00", 11},
		{ofSegment, "00 01 00 07 01", 4}, {ofSegment, "00 01 01 00 00", 4},
		{ofRequest, "03 01 0C 01 6B 00 00", 2},
		{ofSegment, "", 0}, {ofRequest, "", 0}, {ofReply, "", 0},
	} {
		wrong(t, faces[x.face], raw(x.b), x.at)
	}
	for _, f := range faces {
		if at, e := f.decode(t, nil); e != api.ErrWire || at != 0 {
			t.Errorf("%s of nothing: %d, %d", f.what, at, e)
		}
	}
}

// badForms tells how a number may be wrong, whatever stands there: not in its form, or beyond its bounds.
func badForms(p part) [][]byte {
	long := bytes.Clone(p.b)
	var all [][]byte
	for len(long) < 10 {
		long[len(long)-1] |= 128
		long = append(long, 0)
		all = append(all, bytes.Clone(long))
	}
	for _, tenth := range []byte{0, 2, 3, 127, 128, 129, 255} {
		all = append(all, append(bytes.Repeat([]byte{128}, 9), tenth))
		all = append(all, append(bytes.Repeat([]byte{255}, 9), tenth))
	}
	if p.kind == isSigned {
		return all
	}
	if p.low > 0 {
		all = append(all, num(p.low-1))
	}
	for _, u := range []uint64{p.high + 1, p.high + 2, p.high + 256, p.high + 1<<32, 1<<63 - 1, 1 << 63, 1<<63 + p.low, 1<<64 - 1} {
		all = append(all, num(u))
	}
	return all
}

// badTexts tells how the bytes of a name may be wrong: one of them, anywhere.
func badTexts(p part) [][]byte {
	var all [][]byte
	for i := range p.b {
		for _, c := range []byte{0, 10, 32, 127, 128, 255} {
			b := bytes.Clone(p.b)
			b[i] = c
			all = append(all, b)
		}
	}
	return all
}

// TestP208EveryFieldWrong: each field of each thing wrong in each way, with all that follows, with nothing behind it, with wrong bytes behind it.
func TestP208EveryFieldWrong(t *testing.T) {
	for _, x := range samples(6) {
		whole := partBytes(x.parts)
		right(t, x.face, whole)
		at := 0
		for _, p := range x.parts {
			bad := badForms
			if p.kind == isText {
				bad = badTexts
			}
			if p.kind == isData {
				bad = func(part) [][]byte { return nil }
			}
			ahead, behind := whole[:at], whole[at+len(p.b):]
			for _, b := range bad(p) {
				wrong(t, x.face, join(ahead, b, behind), at)
				wrong(t, x.face, join(ahead, b), at)
				wrong(t, x.face, join(ahead, b, []byte{128, 0, 255, 255}), at)
			}
			at += len(p.b)
		}
	}
}

// TestP208Bounds: each number on which nothing hangs, read at its bounds.
func TestP208Bounds(t *testing.T) {
	for _, x := range samples(6) {
		whole := partBytes(x.parts)
		at := 0
		for _, p := range x.parts {
			ahead, behind := whole[:at], whole[at+len(p.b):]
			if p.kind == isNumber && !p.hung {
				for _, u := range []uint64{p.low, p.low + 1, p.high - 1, p.high} {
					right(t, x.face, join(ahead, num(u), behind))
				}
			}
			if p.kind == isSigned {
				for _, u := range []uint64{0, 1, 2, 127, 128, 1<<63 - 1, 1 << 63, 1<<64 - 2, 1<<64 - 1} {
					right(t, x.face, join(ahead, num(u), behind))
				}
			}
			at += len(p.b)
		}
	}
}

// TestP208Ends: bytes that end within a number, even one whose bytes are too many for its bounds already.
func TestP208Ends(t *testing.T) {
	for _, x := range samples(4) {
		whole := partBytes(x.parts)
		at := 0
		for _, p := range x.parts {
			if p.kind == isNumber || p.kind == isSigned {
				for n := range 10 {
					wrong(t, x.face, join(whole[:at], bytes.Repeat([]byte{255}, n)), at+n)
					wrong(t, x.face, join(whole[:at], bytes.Repeat([]byte{128}, n)), at+n)
				}
				wrong(t, x.face, join(whole[:at], bytes.Repeat([]byte{255}, 10)), at)
			}
			at += len(p.b)
		}
	}
}

// TestP208NameEnds: where bytes of a name are missing, those that are there are not looked at; nor is the order of views.
func TestP208NameEnds(t *testing.T) {
	for _, x := range []struct {
		face int
		b    string
		at   int
	}{
		{ofMessage, "03 02 20", 3}, {ofMessage, "03 03 6B 00", 4}, {ofMessage, "03 10 FF FF FF", 5}, {ofMessage, "03 02 20 20", 2}, {ofMessage, "03 02 6B 20", 2},
		{ofMessage, "0A 02 01 6B 0A 00 01 04 06 00 02 61", 12}, {ofMessage, "0A 02 01 6B 0A 00 01 04 06 00 02 6B", 12}, {ofMessage, "0A 02 01 6B 0A 00 01 04 06 00 02 61 61", 11},
		{ofMessage, "0A 02 01 6B 0A 00 01 04 06 00 02 20", 12}, {ofMessage, "0A 02 01 6B 0A 00 01 04 06 00 01", 11}, {ofMessage, "0A 02 01 6B 0A 00 01 04 06 00", 10},
		{ofMessage, "01 03 01 02 02 00", 6}, {ofRequest, "03 01 02 02 00", 5}, {ofRequest, "03 01 02 02 00 6B", 4}, {ofRequest, "03 01 02 11 00", 3}, {ofRequest, "03 01 02 00", 3},
		{ofSegment, "00 01 01 00 05 00 00", 7}, {ofSegment, "00 01 01 00 A0 1F", 6}, {ofSegment, "00 01 01 00 A1 1F", 4}, {ofSegment, "00 01 00 00 A1 1F", 4},
	} {
		wrong(t, faces[x.face], raw(x.b), x.at)
	}
}

// TestP208Lengths: a name of every length that may be told; Data of those at the bounds.
func TestP208Lengths(t *testing.T) {
	for n := range 40 {
		b := join(raw("08"), num(uint64(n)), bytes.Repeat([]byte("k"), n), raw("0A 00 01 02"))
		if n >= 1 && n <= 16 {
			right(t, faces[ofMessage], b)
		} else {
			wrong(t, faces[ofMessage], b, 1)
		}
	}
	for _, n := range []int{0, 1, 127, 128, 3999, 4000, 4001, 4096, 1 << 14} {
		some, none := join(raw("00 01 01 00"), num(uint64(n)), make([]byte, n)), join(raw("00 01 00 00"), num(uint64(n)), make([]byte, n))
		if n >= 1 && n <= 4000 {
			right(t, faces[ofSegment], some)
		} else {
			wrong(t, faces[ofSegment], some, 4)
		}
		if n == 0 {
			right(t, faces[ofSegment], none)
		} else {
			wrong(t, faces[ofSegment], none, 4)
		}
	}
}

// TestP208Views: how many, and names that do not rise, at each place in the list.
func TestP208Views(t *testing.T) {
	behind := raw("0A 00 01 04 06 00")
	for _, n := range []int{0, 1, 63, 64, 65, 66, 127, 128, 1 << 20} {
		b := join(raw("0A"), num(uint64(n)))
		for i := range min(n, 70) {
			b = join(b, raw("03"), fmt.Appendf(nil, "%03d", i), behind)
		}
		if n <= 64 {
			right(t, faces[ofMessage], b)
		} else {
			wrong(t, faces[ofMessage], b, 1)
		}
	}
	for _, x := range []struct {
		names string
		bad   int
	}{
		{"a a", 1}, {"b a", 1}, {"aa a", 1}, {"a B", 1}, {"9 10", 1}, {"a b b", 2}, {"a b c a", 3}, {"a c b d", 2}, {"b a a", 1}, {"! ~ !~", 2}, {"a b c d e f f", 6},
		{"a aa aaa b", -1}, {"! ~", -1}, {"10 9", -1}, {"B a", -1}, {"a aa ab b", -1},
	} {
		names := strings.Fields(x.names)
		b, at := join(raw("0A"), num(uint64(len(names)))), 0
		for i, s := range names {
			b = append(b, byte(len(s)))
			if i == x.bad {
				at = len(b)
			}
			b = join(b, []byte(s), behind)
		}
		if x.bad < 0 {
			right(t, faces[ofMessage], b)
		} else {
			wrong(t, faces[ofMessage], b, at)
		}
	}
}

// TestP208LeftBehind: bytes behind all fields, one and more.
func TestP208LeftBehind(t *testing.T) {
	for _, x := range samples(6) {
		whole := partBytes(x.parts)
		for _, more := range []string{"00", "01", "80", "FF", "00 00", "0A 00", "FF FF FF FF FF FF FF FF FF FF FF"} {
			wrong(t, x.face, join(whole, raw(more)), len(whole))
		}
		wrong(t, x.face, join(whole, whole), len(whole))
	}
}

// TestP208ToldErr: on the Err of a MsgTold hangs whether a cap follows.
func TestP208ToldErr(t *testing.T) {
	for err := range 300 {
		ahead := join(raw("02 03 01 01 6B"), num(uint64(err)))
		capped := err == 0 || err == 101
		switch {
		case err > 255:
			wrong(t, faces[ofMessage], ahead, 5)
			wrong(t, faces[ofMessage], join(ahead, raw("0A 00")), 5)
		case capped:
			wrong(t, faces[ofMessage], ahead, len(ahead))
			wrong(t, faces[ofMessage], join(ahead, raw("0A")), len(ahead)+1)
			wrong(t, faces[ofMessage], join(ahead, raw("00 00")), len(ahead))
			right(t, faces[ofMessage], join(ahead, raw("0A 00")))
		default:
			right(t, faces[ofMessage], ahead)
			wrong(t, faces[ofMessage], join(ahead, raw("0A 00")), len(ahead))
		}
	}
}

// TestP208AnyBytes: bytes that were turned at random are answered as the tables say.
func TestP208AnyBytes(t *testing.T) {
	d := dice(5)
	for round := range 40 {
		for _, x := range samples(1 + round%2) {
			b := partBytes(x.parts)
			for range 1 + d.roll(3) {
				b = d.turn(b)
			}
			asTold(t, x.face, b)
		}
		for _, f := range faces {
			asTold(t, f, d.bytes(d.roll(30)))
		}
	}
}

// turn changes a byte, puts one in, takes one out, or cuts the bytes off.
func (d *dice) turn(b []byte) []byte {
	b = bytes.Clone(b)
	i := d.roll(len(b) + 1)
	c := []byte{0, 1, 15, 16, 32, 63, 64, 127, 128, 129, 255, byte(d.roll(256))}[d.roll(12)]
	switch d.roll(4) {
	case 0:
		return join(b[:i], []byte{c}, b[i:])
	case 1:
		return b[:i]
	}
	if i == len(b) {
		return append(b, c)
	}
	if d.roll(3) == 0 {
		return join(b[:i], b[i+1:])
	}
	b[i] = c
	return b
}

// asTold asserts that bytes are answered as the model says.
func asTold(t *testing.T, f face, b []byte) {
	t.Helper()
	if at, ok := model(f.what, b); ok {
		right(t, f, b)
	} else {
		wrong(t, f, b, at)
	}
}

// TestP209Beginnings: no beginning of the bytes of one is the bytes of another.
func TestP209Beginnings(t *testing.T) {
	for _, x := range samples(12) {
		whole := partBytes(x.parts)
		right(t, x.face, whole)
		for cut := range whole {
			wrong(t, x.face, whole[:cut], cut)
			wrong(t, x.face, bytes.Clone(whole[:cut]), cut)
		}
	}
	s := api.Segment{From: 3, To: 4, Seq: 5, Ack: 6, Data: make([]byte, 4000)}
	b, _ := wire.EncodeSegment(s)
	for cut := range b {
		wrong(t, faces[ofSegment], b[:cut], cut)
	}
}

// TestP209There: what was written is read as it was, and what was read is written as it was.
func TestP209There(t *testing.T) {
	d := dice(6)
	for range 200 {
		for kind := api.MsgAsk; kind <= api.MsgDigest; kind++ {
			m := d.message(kind)
			b, e := wire.Encode(m)
			n, at, f := wire.Decode(b)
			if e != api.OK || f != api.OK || at != 0 || !sameMsg(m, n) || !wire.Valid(n) {
				t.Errorf("%+v: %d, % x, %+v, %d, %d", m, e, b, n, at, f)
			}
			right(t, faces[ofMessage], b)
		}
		s := d.segment()
		b, e := wire.EncodeSegment(s)
		if r, at, f := wire.DecodeSegment(b); e != api.OK || f != api.OK || at != 0 || !sameSegment(s, r) {
			t.Errorf("%+v: %d, %+v, %d, %d", s, e, r, at, f)
		}
		c, o, r := d.call(), d.op(), d.reply()
		b, e = wire.EncodeRequest(c, o)
		if x, y, at, f := wire.DecodeRequest(b); e != api.OK || f != api.OK || at != 0 || x != c || y != o {
			t.Errorf("%+v, %+v: %d, %+v, %+v, %d, %d", c, o, e, x, y, at, f)
		}
		b, e = wire.EncodeReply(r)
		if x, at, f := wire.DecodeReply(b); e != api.OK || f != api.OK || at != 0 || x != r {
			t.Errorf("%+v: %d, %+v, %d, %d", r, e, x, at, f)
		}
	}
}

// FuzzDecode: any bytes, read as each of the four.
func FuzzDecode(f *testing.F) {
	for _, x := range samples(2) {
		f.Add(partBytes(x.parts))
	}
	f.Fuzz(func(t *testing.T, b []byte) {
		for _, x := range faces {
			asTold(t, x, b)
		}
	})
}
