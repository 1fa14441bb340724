package wire_test

import (
	"bytes"
	"encoding/binary"
	"encoding/hex"
	"math"
	"slices"
	"strings"
	"testing"

	"sluice/api"
	"sluice/wire"
)

func raw(s string) []byte {
	b, err := hex.DecodeString(strings.ReplaceAll(s, " ", ""))
	if err != nil {
		panic(err)
	}
	return b
}

func join(parts ...[]byte) []byte { return bytes.Join(parts, nil) }

func num(u uint64) []byte { return binary.AppendUvarint(nil, u) }

// dice: numbers that hang on its beginning alone.
type dice uint64

func (d *dice) roll(n int) int {
	*d = *d*6364136223846793005 + 1442695040888963407
	return int(uint64(*d) >> 33 % uint64(n))
}

// pick tells a number from low to high, its bounds and small ones more often than others.
func (d *dice) pick(low, high int) int {
	switch d.roll(4) {
	case 0:
		return low
	case 1:
		return high
	case 2:
		return min(high, low+d.roll(300))
	}
	return low + (d.roll(1<<20)<<20|d.roll(1<<20))%(high-low+1)
}

func (d *dice) whole() int {
	n := d.roll(1<<30)<<34 ^ d.roll(1<<30)<<10 ^ d.roll(1<<10)
	switch d.roll(5) {
	case 0:
		return math.MinInt64
	case 1:
		return math.MaxInt64
	case 2:
		return n >> 56
	}
	return n
}

func (d *dice) name() string {
	b := make([]byte, d.pick(1, 16))
	for i := range b {
		b[i] = byte(d.pick(33, 126))
	}
	return string(b)
}

func (d *dice) call() api.Call {
	return api.Call{Session: d.pick(0, 63), Id: d.pick(1, api.MaxRequest)}
}

func (d *dice) op() api.Op {
	return api.Op{Kind: d.pick(1, 11), Name: d.name(), A: d.whole(), B: d.whole()}
}

func (d *dice) epoch() api.Epoch {
	return api.Epoch{Round: d.pick(1, api.MaxRound), Rank: d.pick(0, 15)}
}

func (d *dice) rights() api.Rights {
	return api.Rights{Down: d.pick(0, api.MaxCap), Up: d.pick(0, api.MaxCap)}
}

func (d *dice) views(n int) []api.View {
	names := map[string]bool{}
	for len(names) < n {
		names[d.name()] = true
	}
	var list []api.View
	for name := range names {
		list = append(list, api.View{Name: name})
	}
	slices.SortFunc(list, func(a, b api.View) int { return strings.Compare(a.Name, b.Name) })
	for i := range list {
		v := &list[i]
		v.Cap, v.Recaps = d.pick(1, api.MaxCap), d.pick(0, api.MaxRound)
		v.Version, v.Rights, v.Held = d.pick(0, api.MaxSeq), d.rights(), d.pick(0, api.MaxCap)
	}
	return list
}

// message tells a valid message of a kind.
func (d *dice) message(kind int) api.Msg {
	m := api.Msg{Kind: kind}
	if kind == api.MsgDigest {
		m.Views = d.views(d.roll(5))
		return m
	}
	if kind <= api.MsgTold {
		m.Call = d.call()
	}
	if kind == api.MsgAsk {
		m.Op = d.op()
		return m
	}
	m.Name = d.name()
	if kind == api.MsgTold {
		m.Err = []api.Errno{api.OK, api.ErrExists, api.ErrNone, 255, 1}[d.roll(5)]
		if m.Err != api.OK && m.Err != api.ErrExists {
			return m
		}
	}
	m.Cap, m.Recaps = d.pick(1, api.MaxCap), d.pick(0, api.MaxRound)
	if kind >= api.MsgMark && kind <= api.MsgOver {
		m.Epoch = d.epoch()
	}
	if kind == api.MsgOver {
		m.Over = d.epoch()
	}
	if slices.Contains([]int{api.MsgYield, api.MsgGrant, api.MsgAbort, api.MsgWant, api.MsgGive}, kind) {
		m.Rights = d.rights()
	}
	if kind == api.MsgYield {
		m.Held = d.pick(0, api.MaxCap)
	}
	return m
}

func (d *dice) segment() api.Segment {
	s := api.Segment{From: d.pick(0, 15), To: d.pick(0, 15), Seq: d.pick(0, api.MaxSeq), Ack: d.pick(0, api.MaxSeq)}
	if s.Seq > 0 {
		s.Data = d.bytes(d.pick(1, 4000))
	}
	return s
}

func (d *dice) reply() api.Reply {
	return api.Reply{Call: d.call(), Err: api.Errno(d.pick(0, 255)), Value: d.whole()}
}

func (d *dice) bytes(n int) []byte {
	b := make([]byte, n)
	for i := range b {
		b[i] = byte(d.roll(256))
	}
	return b
}

func sameMsg(a, b api.Msg) bool {
	views := slices.Equal(a.Views, b.Views)
	rest := a.Kind == b.Kind && a.Name == b.Name && a.Cap == b.Cap && a.Recaps == b.Recaps && a.Epoch == b.Epoch && a.Over == b.Over &&
		a.Rights == b.Rights && a.Held == b.Held && a.Call == b.Call && a.Op == b.Op && a.Err == b.Err && a.Value == b.Value
	return views && rest
}

func sameSegment(a, b api.Segment) bool {
	return a.From == b.From && a.To == b.To && a.Seq == b.Seq && a.Ack == b.Ack && bytes.Equal(a.Data, b.Data)
}

// face: one of the four things that stand in bytes. Its calls assert what holds of every answer: with an error the others are zero.
type face struct {
	what   string
	decode func(t *testing.T, b []byte) (int, api.Errno)
	again  func(t *testing.T, b []byte) []byte // the bytes of what b says
}

func zero(t *testing.T, what string, b []byte, is bool, at int, e api.Errno) {
	t.Helper()
	if e != api.OK && !is {
		t.Errorf("%s of % x: %d with something beside it", what, b, e)
	}
	if e == api.OK && at != 0 {
		t.Errorf("%s of % x: OK with the place %d", what, b, at)
	}
}

var faces = []face{
	{"Decode", func(t *testing.T, b []byte) (int, api.Errno) {
		m, at, e := wire.Decode(b)
		zero(t, "Decode", b, sameMsg(m, api.Msg{}), at, e)
		return at, e
	}, func(t *testing.T, b []byte) []byte {
		m, _, _ := wire.Decode(b)
		c, _ := wire.Encode(m)
		return c
	}},
	{"DecodeSegment", func(t *testing.T, b []byte) (int, api.Errno) {
		s, at, e := wire.DecodeSegment(b)
		zero(t, "DecodeSegment", b, sameSegment(s, api.Segment{}), at, e)
		return at, e
	}, func(t *testing.T, b []byte) []byte {
		s, _, _ := wire.DecodeSegment(b)
		c, _ := wire.EncodeSegment(s)
		return c
	}},
	{"DecodeRequest", func(t *testing.T, b []byte) (int, api.Errno) {
		c, o, at, e := wire.DecodeRequest(b)
		zero(t, "DecodeRequest", b, c == api.Call{} && o == api.Op{}, at, e)
		return at, e
	}, func(t *testing.T, b []byte) []byte {
		c, o, _, _ := wire.DecodeRequest(b)
		d, _ := wire.EncodeRequest(c, o)
		return d
	}},
	{"DecodeReply", func(t *testing.T, b []byte) (int, api.Errno) {
		r, at, e := wire.DecodeReply(b)
		zero(t, "DecodeReply", b, r == api.Reply{}, at, e)
		return at, e
	}, func(t *testing.T, b []byte) []byte {
		r, _, _ := wire.DecodeReply(b)
		d, _ := wire.EncodeReply(r)
		return d
	}},
}

const (
	ofMessage = iota
	ofSegment
	ofRequest
	ofReply
)

// wrong asserts that bytes are refused, and at which place.
func wrong(t *testing.T, f face, b []byte, want int) {
	t.Helper()
	if at, e := f.decode(t, b); e != api.ErrWire || at != want {
		t.Errorf("%s of % x: %d at %d; want ErrWire at %d", f.what, b, e, at, want)
	}
}

// right asserts that bytes are taken, and are written as they were.
func right(t *testing.T, f face, b []byte) {
	t.Helper()
	if at, e := f.decode(t, b); e != api.OK {
		t.Errorf("%s of % x: %d at %d; want OK", f.what, b, e, at)
	}
	if c := f.again(t, b); !bytes.Equal(c, b) {
		t.Errorf("%s of % x: it is written % x", f.what, b, c)
	}
}
