package keeper_test

import (
	"bytes"
	"encoding/hex"
	"math"
	"reflect"
	"slices"
	"strings"
	"testing"

	"sluice/api"
	"sluice/keeper"
)

func raw(s string) []byte {
	b, err := hex.DecodeString(strings.ReplaceAll(s, " ", ""))
	if err != nil {
		panic(err)
	}
	return b
}

// same holds inputs against each other: nil and an empty Data are the same.
func same(a, b keeper.Input) bool {
	return a.Kind == b.Kind && a.Call == b.Call && a.Op == b.Op && bytes.Equal(a.Data, b.Data)
}

// wantForm asserts that an input and its bytes are each other's.
func wantForm(t *testing.T, x keeper.Input, want []byte) {
	t.Helper()
	b, e := keeper.Encode(x)
	if e != api.OK {
		t.Errorf("Encode of kind %d: %d", x.Kind, e)
	}
	wantBytes(t, "Encode", b, want)
	if got, e := keeper.Decode(want); e != api.OK || !same(got, x) {
		t.Errorf("Decode of % x: %+v, %d", want[:min(len(want), 80)], got, e)
	}
}

func wantRefused(t *testing.T, x keeper.Input, wanted api.Errno) {
	t.Helper()
	if b, e := keeper.Encode(x); len(b) != 0 || e != wanted {
		t.Errorf("Encode of kind %d, %+v, %d and %d bytes: %d bytes, %d, want %d", x.Kind, x.Call, len(x.Op.Name), len(x.Data), len(b), e, wanted)
	}
}

func wantNone(t *testing.T, b []byte) {
	t.Helper()
	if x, e := keeper.Decode(b); e != api.ErrInput || !reflect.DeepEqual(x, keeper.Input{}) {
		t.Errorf("Decode of %d bytes, % x: %+v, %d", len(b), b[:min(len(b), 80)], x, e)
	}
}

// The chapter's first table.
func TestP2202Table(t *testing.T) {
	wantForm(t, tick(), raw("04"))
	wantForm(t, framed(raw("FF 00")), raw("03 FF 00"))
	wantForm(t, requested(nil), raw("02"))
	wantForm(t, requested([]byte{}), raw("02"))
	inc := api.Op{Kind: api.OpInc, Name: "k", A: 150, B: -1}
	wantForm(t, keeper.Input{Kind: 1, Call: api.Call{Session: 1, Id: 2}, Op: inc}, raw("01 02 04 04 AC 02 01 6B"))
	wantForm(t, keeper.Input{Kind: 1}, raw("01 00 00 00 00 00"))
	wantForm(t, framed(make([]byte, 8191)), append([]byte{3}, make([]byte, 8191)...))
	wantRefused(t, framed(make([]byte, 8192)), api.ErrLong)
	wantRefused(t, keeper.Input{Kind: 4, Data: []byte{0}}, api.ErrInput)
	wantRefused(t, keeper.Input{Kind: 5}, api.ErrInput)
	for _, s := range []string{"", "00", "04 00", "01 00 00 00 00", "01 80 00 00 00 00 00"} {
		wantNone(t, raw(s))
	}
}

func TestP2201Kinds(t *testing.T) {
	if keeper.InputCall != 1 || keeper.InputRequest != 2 || keeper.InputFrame != 3 || keeper.InputTick != 4 {
		t.Error("the kinds have other numbers")
	}
	for _, kind := range []int{0, -1, 5, 6, 255, 256, 257, 258, 259, 260, 1<<32 + 1, -255, math.MinInt64, math.MinInt64 + 4, math.MaxInt64} {
		wantRefused(t, keeper.Input{Kind: kind}, api.ErrInput)
		wantRefused(t, keeper.Input{Kind: kind, Data: make([]byte, 9000)}, api.ErrInput)
	}
	for kind := range 256 {
		if kind == 0 || kind > 4 {
			wantNone(t, []byte{byte(kind)})
			wantNone(t, append([]byte{byte(kind)}, 0, 0, 0, 0, 0))
		}
	}
}

// What a kind has not must be zero, each number by itself, and whatever its size.
func TestP2201NothingElse(t *testing.T) {
	for _, n := range []int{1, -1, 256, 1 << 32, math.MinInt64, math.MaxInt64} {
		for _, x := range []keeper.Input{
			{Call: api.Call{Session: n}}, {Call: api.Call{Id: n}}, {Op: api.Op{Kind: n}}, {Op: api.Op{A: n}}, {Op: api.Op{B: n}},
		} {
			wantForm(t, with(x, 1), form(with(x, 1)))
			for _, kind := range []int{2, 3, 4} {
				wantRefused(t, with(x, kind), api.ErrInput)
			}
		}
	}
	for _, name := range []string{"k", "\x00", strings.Repeat("k", 9000)} {
		for _, kind := range []int{2, 3, 4} {
			wantRefused(t, keeper.Input{Kind: kind, Op: api.Op{Name: name}}, api.ErrInput)
		}
	}
	for _, n := range []int{1, 8191, 9000} { // that it is none comes ahead of its length
		wantRefused(t, keeper.Input{Kind: 1, Data: make([]byte, n)}, api.ErrInput)
		wantRefused(t, keeper.Input{Kind: 4, Data: make([]byte, n)}, api.ErrInput)
		wantRefused(t, keeper.Input{Kind: 1, Op: api.Op{Name: strings.Repeat("k", 9000)}, Data: make([]byte, n)}, api.ErrInput)
	}
	for kind := 1; kind <= 4; kind++ {
		wantForm(t, keeper.Input{Kind: kind, Data: []byte{}}, form(keeper.Input{Kind: kind}))
	}
}

func with(x keeper.Input, kind int) keeper.Input {
	x.Kind = kind
	return x
}

// Each number in its place, and every byte that a name, or Data, may have.
func TestP2202Call(t *testing.T) {
	x := keeper.Input{Kind: 1, Call: api.Call{Session: 1, Id: 2}, Op: api.Op{Kind: 3, A: 4, B: 5, Name: "6"}}
	wantForm(t, x, raw("01 02 04 06 08 0A 36"))
	x = keeper.Input{Kind: 1, Call: api.Call{Session: -1, Id: -2}, Op: api.Op{Kind: math.MaxInt64, A: math.MinInt64, B: 64}}
	wantForm(t, x, raw("01 01 03 FE FF FF FF FF FF FF FF FF 01 FF FF FF FF FF FF FF FF FF 01 80 01"))
	all := make([]byte, 256)
	for i := range all {
		all[i] = byte(i)
		wantForm(t, keeper.Input{Kind: 1, Op: api.Op{Name: string(all[i : i+1])}}, append(raw("01 00 00 00 00 00"), byte(i)))
		wantForm(t, framed(all[i:i+1]), []byte{3, byte(i)})
		wantForm(t, requested(all[i:i+1]), []byte{2, byte(i)})
	}
	wantForm(t, keeper.Input{Kind: 1, Op: api.Op{Name: string(all)}}, append(raw("01 00 00 00 00 00"), all...))
	wantForm(t, framed(all), append([]byte{3}, all...))
}

// Each number of a call at each length that one may have.
func TestP2202Numbers(t *testing.T) {
	for bit := range 64 {
		for _, n := range []int{1 << bit, -1 << bit, 1<<bit - 1, -1<<bit - 1, 1<<bit + 1} {
			for _, x := range []keeper.Input{
				{Kind: 1, Call: api.Call{Session: n, Id: 1}},
				{Kind: 1, Call: api.Call{Session: 1, Id: n}, Op: api.Op{Name: "k"}},
				{Kind: 1, Op: api.Op{Kind: n, A: -n}},
				{Kind: 1, Op: api.Op{A: n, B: n + 1, Name: "\x80"}},
				{Kind: 1, Op: api.Op{B: n, Name: "\x00\x01"}},
			} {
				wantForm(t, x, form(x))
			}
		}
	}
}

// The longest bytes that may be, by each kind that may have so many, and one more.
func TestP2203Long(t *testing.T) {
	least := keeper.Input{Kind: 1}
	most := keeper.Input{Kind: 1, Call: api.Call{Session: math.MinInt64, Id: math.MinInt64}, Op: api.Op{Kind: math.MinInt64, A: math.MinInt64, B: math.MinInt64}}
	for _, x := range []keeper.Input{least, most} {
		room := api.MaxRecord - len(form(x))
		for _, n := range []int{0, 1, room - 1, room} {
			x.Op.Name = strings.Repeat("n", n)
			wantForm(t, x, form(x))
		}
		for _, n := range []int{room + 1, api.MaxRecord, api.MaxRecord + 1, 1 << 17} {
			x.Op.Name = strings.Repeat("n", n)
			wantRefused(t, x, api.ErrLong)
			wantNone(t, form(x))
		}
	}
	for _, kind := range []int{2, 3} {
		for _, n := range []int{0, 1, 495, 496, 8190, 8191} {
			wantForm(t, keeper.Input{Kind: kind, Data: make([]byte, n)}, append([]byte{byte(kind)}, make([]byte, n)...))
		}
		for _, n := range []int{8192, 8193, 1 << 17} {
			wantRefused(t, keeper.Input{Kind: kind, Data: make([]byte, n)}, api.ErrLong)
			wantNone(t, append([]byte{byte(kind)}, make([]byte, n)...))
		}
	}
}

// A call's numbers must be there, all five, and in their form.
func TestP2204Call(t *testing.T) {
	x := keeper.Input{Kind: 1, Call: api.Call{Session: 300, Id: -1}, Op: api.Op{Kind: math.MinInt64, A: 1 << 40, B: math.MaxInt64}}
	b := form(x)
	for n := range b {
		wantNone(t, b[:n])
	}
	zero := raw("00 00 00 00 00")
	for at := range 5 {
		for _, s := range []string{"80 00", "81 00", "FF 80 00", "80 80 80 80 80 80 80 80 80 00", "80 80 80 80 80 80 80 80 80 02", "FF FF FF FF FF FF FF FF FF FF", "80 80 80 80 80 80 80 80 80 81 00"} {
			bad := slices.Concat([]byte{1}, zero[:at], raw(s), zero[at+1:])
			wantNone(t, bad)
			wantNone(t, append(bad, "name"...))
		}
		good := slices.Concat([]byte{1}, zero[:at], raw("FF FF FF FF FF FF FF FF FF 01"), zero[at+1:])
		wantNone(t, good[:at+1+9])
		if x, e := keeper.Decode(good); e != api.OK || !bytes.Equal(form(x), good) {
			t.Errorf("Decode of % x: %+v, %d", good, x, e)
		}
	}
}

func TestP2204Tick(t *testing.T) {
	for i := range 256 {
		wantNone(t, []byte{4, byte(i)})
	}
	wantNone(t, append([]byte{4}, make([]byte, 8191)...))
	wantNone(t, append([]byte{4}, make([]byte, 9000)...))
}

// read holds Decode against what Encode tells: any bytes are those of one input, or of none.
func read(t *testing.T, b []byte) {
	kept := bytes.Clone(b)
	x, e := keeper.Decode(b)
	wantBytes(t, "what was handed in", b, kept)
	switch {
	case e == api.OK:
		wantForm(t, x, b)
		wantBytes(t, "the bytes of what was read", form(x), b)
	case len(b) <= api.MaxRecord && len(b) > 0 && (b[0] == 2 || b[0] == 3):
		t.Errorf("Decode of %d bytes of kind %d: %d", len(b), b[0], e)
	default:
		wantNone(t, b)
	}
}

func TestP2204AnyBytes(t *testing.T) {
	x := dice(1)
	for range 20000 {
		b := x.bytes(x.roll(40))
		if len(b) > 0 {
			b[0] = byte(x.roll(7))
		}
		read(t, b)
	}
}

func FuzzDecode(f *testing.F) {
	for _, s := range []string{"", "02", "03 FF", "04", "04 00", "01 00 00 00 00 00", "01 02 04 04 AC 02 01 6B", "01 80 00 00 00 00 00"} {
		f.Add(raw(s))
	}
	f.Fuzz(read)
}

// What Encode and Decode tell is new memory.
func TestP2210Inputs(t *testing.T) {
	for _, x := range []keeper.Input{tick(), requested(nil), framed([]byte("some bytes")), ask(1, 2, 3, 4)} {
		all := append(bytes.Clone(x.Data), "and spare room"...)
		n := len(x.Data)
		x.Data = all[:n:len(all)]
		one, _ := keeper.Encode(x)
		if string(all[n:]) != "and spare room" {
			t.Error("Encode has changed spare room")
		}
		two, _ := keeper.Encode(x)
		spoil(one)
		wantBytes(t, "another Encode", two, form(x))
		back, _ := keeper.Decode(two)
		spoil(back.Data)
		wantBytes(t, "what Decode was handed", two, form(x))
		back, _ = keeper.Decode(two)
		spoil(two)
		if !same(back, x) || string(all[n:]) != "and spare room" {
			t.Errorf("kind %d: %+v has changed with what it was read from", x.Kind, back)
		}
	}
}

// spoil overwrites a list's bytes, its spare room too.
func spoil(b []byte) {
	for i := range b[:cap(b)] {
		b[:cap(b)][i] = '#'
	}
}
