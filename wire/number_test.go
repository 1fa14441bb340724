package wire_test

import (
	"bytes"
	"math"
	"testing"

	"sluice/api"
	"sluice/wire"
)

// ackBytes tells a segment's bytes with a number as its Ack, valueBytes a reply's with a signed one as its Value.
func ackBytes(number string) []byte { return join(raw("00 01 00"), raw(number), raw("00")) }

func valueBytes(number string) []byte { return join(raw("00 09 00"), raw(number)) }

// TestP201Numbers: numbers in bytes that are written out, at every step to a byte more.
func TestP201Numbers(t *testing.T) {
	for _, x := range []struct {
		n int
		b string
	}{
		{0, "00"}, {1, "01"}, {7, "07"}, {127, "7F"}, {128, "80 01"}, {129, "81 01"}, {255, "FF 01"}, {256, "80 02"}, {300, "AC 02"},
		{16383, "FF 7F"}, {16384, "80 80 01"}, {1<<21 - 1, "FF FF 7F"}, {1 << 21, "80 80 80 01"}, {1<<28 - 1, "FF FF FF 7F"}, {1 << 28, "80 80 80 80 01"},
		{1<<35 - 1, "FF FF FF FF 7F"}, {1 << 35, "80 80 80 80 80 01"}, {1<<40 - 1, "FF FF FF FF FF 1F"}, {1 << 40, "80 80 80 80 80 20"},
	} {
		want := api.Segment{To: 1, Ack: x.n}
		if b, e := wire.EncodeSegment(want); e != api.OK || !bytes.Equal(b, ackBytes(x.b)) {
			t.Errorf("%d is written % x, %d; want % x", x.n, b, e, ackBytes(x.b))
		}
		if s, at, e := wire.DecodeSegment(ackBytes(x.b)); e != api.OK || at != 0 || !sameSegment(s, want) {
			t.Errorf("%s is read %+v, %d, %d", x.b, s, at, e)
		}
	}
}

// TestP201Signed: signed numbers, the least and the greatest ones among them, which have ten bytes.
func TestP201Signed(t *testing.T) {
	for _, x := range []struct {
		n int
		b string
	}{
		{0, "00"}, {-1, "01"}, {1, "02"}, {-2, "03"}, {2, "04"}, {-3, "05"}, {63, "7E"}, {-64, "7F"}, {64, "80 01"}, {-65, "81 01"}, {150, "AC 02"}, {-150, "AB 02"},
		{math.MaxInt32, "FE FF FF FF 0F"}, {math.MinInt32, "FF FF FF FF 0F"}, {1 << 40, "80 80 80 80 80 40"},
		{1 << 62, "80 80 80 80 80 80 80 80 80 01"}, {1<<62 - 1, "FE FF FF FF FF FF FF FF 7F"}, {-1 << 62, "FF FF FF FF FF FF FF FF 7F"}, {-1<<62 - 1, "81 80 80 80 80 80 80 80 80 01"},
		{math.MaxInt64, "FE FF FF FF FF FF FF FF FF 01"}, {math.MinInt64, "FF FF FF FF FF FF FF FF FF 01"}, {math.MinInt64 + 1, "FD FF FF FF FF FF FF FF FF 01"},
	} {
		want := api.Reply{Call: api.Call{Id: 9}, Value: x.n}
		if b, e := wire.EncodeReply(want); e != api.OK || !bytes.Equal(b, valueBytes(x.b)) {
			t.Errorf("%d is written % x, %d; want % x", x.n, b, e, valueBytes(x.b))
		}
		if r, at, e := wire.DecodeReply(valueBytes(x.b)); e != api.OK || at != 0 || r != want {
			t.Errorf("%s is read %+v, %d, %d", x.b, r, at, e)
		}
		op := api.Op{Kind: api.OpTake, Name: "k", A: x.n, B: -x.n}
		b, e := wire.EncodeRequest(api.Call{Id: 9}, op)
		if _, o, _, f := wire.DecodeRequest(b); e != api.OK || f != api.OK || o != op {
			t.Errorf("%+v is written % x, %d, and read %+v, %d", op, b, e, o, f)
		}
	}
}

// TestP201OneForm: what is no form of a number, signed or not: a last byte of 0, a tenth byte that is not 1.
func TestP201OneForm(t *testing.T) {
	for _, n := range []string{
		"80 00", "81 00", "AC 82 00", "FF 00", "80 80 00", "87 80 80 80 80 80 80 80 00",
		"80 80 80 80 80 80 80 80 80 00", "FF FF FF FF FF FF FF FF FF 00", "81 80 80 80 80 80 80 80 80 02", "80 80 80 80 80 80 80 80 80 7F",
		"80 80 80 80 80 80 80 80 80 81", "80 80 80 80 80 80 80 80 80 80", "FF FF FF FF FF FF FF FF FF FF", "FF FF FF FF FF FF FF FF FF 03",
		"80 80 80 80 80 80 80 80 80 81 00", "80 80 80 80 80 80 80 80 80 80 01", "81 80 80 80 80 80 80 80 80 41",
	} {
		wrong(t, faces[ofSegment], ackBytes(n), 3)
		wrong(t, faces[ofReply], valueBytes(n), 3)
		wrong(t, faces[ofReply], join(valueBytes(n), raw("FF FF 00")), 3)
	}
}

// TestP201Beyond: right forms of numbers that no field without a sign has room for.
func TestP201Beyond(t *testing.T) {
	for _, n := range []string{
		"81 80 80 80 80 20", "FF FF FF FF FF 7F", "80 80 80 80 80 80 01", "FF FF FF FF FF FF FF FF 7F",
		"80 80 80 80 80 80 80 80 80 01", "FF FF FF FF FF FF FF FF FF 01", "87 80 80 80 80 80 80 80 80 01",
	} {
		wrong(t, faces[ofSegment], ackBytes(n), 3)
		right(t, faces[ofReply], valueBytes(n))
	}
}
