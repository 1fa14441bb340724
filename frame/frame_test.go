package frame_test

import (
	"bytes"
	"hash/crc32"
	"testing"

	"sluice/api"
	"sluice/frame"
)

// some makes n bytes that hang on seed alone.
func some(n int, seed uint32) []byte {
	b := make([]byte, n)
	for i := range b {
		seed = seed*1664525 + 1013904223
		b[i] = byte(seed >> 24)
	}
	return b
}

// withSum puts the sum of b behind it, so that a frame can be wrong in anything else alone.
func withSum(b ...byte) []byte {
	s := crc32.ChecksumIEEE(b)
	return append(bytes.Clone(b), byte(s), byte(s>>8), byte(s>>16), byte(s>>24))
}

// framed makes a frame of any length by P102's words: also of one that Seal refuses.
func framed(payload []byte) []byte {
	n := len(payload)
	return withSum(append([]byte{1, byte(n), byte(n >> 8)}, payload...)...)
}

func seal(t *testing.T, payload []byte) []byte {
	t.Helper()
	b, e := frame.Seal(payload)
	if e != api.OK {
		t.Fatalf("Seal of %d bytes: %d", len(payload), e)
	}
	return b
}

// refused asserts that b does not open, and by which error.
func refused(t *testing.T, what string, b []byte, want api.Errno) {
	t.Helper()
	if p, e := frame.Open(b); e != want || p != nil {
		t.Errorf("%s: Open: %d bytes, %d; want none, %d", what, len(p), e, want)
	}
}

// TestP102Layout: the frame of a payload of every length that there may be.
func TestP102Layout(t *testing.T) {
	all := some(api.MaxPayload, 1)
	for n := range api.MaxPayload + 1 {
		b := seal(t, all[:n])
		if len(b) != n+7 {
			t.Fatalf("%d bytes: the frame has %d", n, len(b))
		}
		if b[0] != 1 || int(b[1]) != n%256 || int(b[2]) != n/256 {
			t.Errorf("%d bytes: the frame begins % x", n, b[:3])
		}
		if !bytes.Equal(b[3:n+3], all[:n]) {
			t.Errorf("%d bytes: the payload is another one", n)
		}
		if want := withSum(b[:n+3]...); !bytes.Equal(b, want) {
			t.Errorf("%d bytes: the sum is % x, want % x", n, b[n+3:], want[n+3:])
		}
	}
}

// TestP102Examples: the frames of chapter 1's table, byte by byte.
func TestP102Examples(t *testing.T) {
	for _, x := range []struct{ payload, want []byte }{
		{nil, []byte{1, 0, 0, 0x25, 0xB3, 0x83, 0xFE}},
		{[]byte{}, []byte{1, 0, 0, 0x25, 0xB3, 0x83, 0xFE}},
		{[]byte{0x61, 0x62, 0x63}, []byte{1, 3, 0, 0x61, 0x62, 0x63, 0x06, 0x90, 0x5B, 0xF7}},
	} {
		if b := seal(t, x.payload); !bytes.Equal(b, x.want) {
			t.Errorf("Seal(% x): % x, want % x", x.payload, b, x.want)
		}
	}
}

// TestP103Limit: at the limit a payload is sealed; past it none is, however long it is.
func TestP103Limit(t *testing.T) {
	for _, n := range []int{0, 1, api.MaxPayload - 1, api.MaxPayload} {
		if b, e := frame.Seal(some(n, 2)); e != api.OK || len(b) != n+7 {
			t.Errorf("Seal of %d bytes: %d bytes, %d", n, len(b), e)
		}
	}
	for _, n := range []int{api.MaxPayload + 1, api.MaxPayload + 2, 65535, 65536, 65537, 1 << 20} {
		if b, e := frame.Seal(some(n, 2)); e != api.ErrLong || b != nil {
			t.Errorf("Seal of %d bytes: %d bytes, %d; want none, ErrLong", n, len(b), e)
		}
	}
}

// TestP104Short: fewer than seven bytes are no frame, of whatever version.
func TestP104Short(t *testing.T) {
	refused(t, "nil", nil, api.ErrFrame)
	for n := range 7 {
		for _, first := range []byte{0, 1, 2, 255} {
			b := make([]byte, n)
			if n > 0 {
				b[0] = first
			}
			refused(t, "a short one", b, api.ErrFrame)
		}
	}
	refused(t, "a head with its sum, one byte short", withSum(1, 0), api.ErrFrame)
}

// TestP104Version: every other version is refused, whatever else is wrong.
func TestP104Version(t *testing.T) {
	for v := range 256 {
		if v == 1 {
			continue
		}
		refused(t, "all else right", withSum(byte(v), 2, 0, 'a', 'b'), api.ErrVersion)
		refused(t, "a wrong length too", withSum(byte(v), 3, 0, 'a', 'b'), api.ErrVersion)
		refused(t, "a wrong sum too", []byte{byte(v), 0, 0, 9, 9, 9, 9}, api.ErrVersion)
		refused(t, "both wrong too", []byte{byte(v), 255, 255, 9, 9, 9, 9}, api.ErrVersion)
	}
}

// TestP104Length: a wrong length goes ahead of a wrong sum, and is wrong with a right sum too.
func TestP104Length(t *testing.T) {
	for _, n := range []int{0, 1, 2, 255, 256, 257, api.MaxPayload} {
		body := some(n, 3)
		for _, told := range []int{n - 1, n + 1, n + 7, n ^ 256, n ^ 4096, n ^ 32768, 65535} {
			if told < 0 {
				continue
			}
			b := withSum(append([]byte{1, byte(told), byte(told >> 8)}, body...)...)
			refused(t, "a right sum", b, api.ErrFrame)
			b[len(b)-1]++
			refused(t, "a wrong sum", b, api.ErrFrame)
		}
	}
	swapped := withSum(append([]byte{1, 1, 0}, some(256, 3)...)...)
	refused(t, "the higher byte first", swapped, api.ErrFrame)
}

// TestP104Long: a frame beyond the limit is none, though its length and its sum agree.
func TestP104Long(t *testing.T) {
	if p, e := frame.Open(framed(some(api.MaxPayload, 4))); e != api.OK || len(p) != api.MaxPayload {
		t.Errorf("at the limit: %d bytes, %d", len(p), e)
	}
	for _, n := range []int{api.MaxPayload + 1, api.MaxPayload + 256, 65535} {
		b := framed(some(n, 4))
		refused(t, "beyond the limit", b, api.ErrFrame)
		b[len(b)-1]++
		refused(t, "beyond the limit, with a wrong sum", b, api.ErrFrame)
	}
	refused(t, "a length that has wrapped round", framed(some(65536, 4)), api.ErrFrame)
	refused(t, "a length that has wrapped round", framed(some(65539, 4)), api.ErrFrame)
}

// TestP104Sum: each bit of the sum counts, and its bytes have an order.
func TestP104Sum(t *testing.T) {
	for _, n := range []int{0, 1, 3, 300, api.MaxPayload} {
		right := framed(some(n, 5))
		if _, e := frame.Open(right); e != api.OK {
			t.Errorf("a right one of %d bytes: %d", n, e)
		}
		for bit := range 32 {
			b := bytes.Clone(right)
			b[len(b)-4+bit/8] ^= 1 << (bit % 8)
			refused(t, "one bit of the sum", b, api.ErrSum)
		}
		b, end := bytes.Clone(right), len(right)
		b[end-4], b[end-3], b[end-2], b[end-1] = b[end-1], b[end-2], b[end-3], b[end-4]
		refused(t, "the highest byte first", b, api.ErrSum)
	}
	refused(t, "chapter 1's example", []byte{1, 0, 0, 0, 0, 0, 0}, api.ErrSum)
}

// TestP105Both: what is sealed opens as it was, and what opens is sealed as it was.
func TestP105Both(t *testing.T) {
	for n := range api.MaxPayload + 1 {
		payload := some(n, uint32(n))
		p, e := frame.Open(seal(t, payload))
		if e != api.OK || !bytes.Equal(p, payload) {
			t.Fatalf("Open of Seal of %d bytes: %d bytes, %d", n, len(p), e)
		}
		taken := framed(payload)
		p, e = frame.Open(taken)
		if e != api.OK || !bytes.Equal(seal(t, p), taken) {
			t.Fatalf("Seal of Open of %d bytes: %d", len(taken), e)
		}
	}
}

// TestP105Cut: no beginning of a frame opens, nor a frame with bytes behind it, be they a frame too.
func TestP105Cut(t *testing.T) {
	for _, n := range []int{0, 1, 3, 256, 1000} {
		b := seal(t, some(n, 6))
		for cut := range b {
			refused(t, "a beginning", b[:cut], api.ErrFrame)
		}
		for _, more := range [][]byte{{0}, {1}, {255}, {0, 0}, some(7, 7), b, some(5000, 7)} {
			refused(t, "bytes behind it", append(bytes.Clone(b), more...), api.ErrFrame)
		}
	}
	most := seal(t, some(api.MaxPayload, 6))
	refused(t, "the longest, cut", most[:len(most)-1], api.ErrFrame)
	refused(t, "the longest, one byte more", append(bytes.Clone(most), 0), api.ErrFrame)
}

// TestP105OneByte: no frame opens with one byte another one; by which error hangs on where it stands.
func TestP105OneByte(t *testing.T) {
	for _, n := range []int{0, 1, 3, 40} {
		right := seal(t, some(n, 8))
		for i := range right {
			want := api.ErrSum
			if i == 0 {
				want = api.ErrVersion
			} else if i < 3 {
				want = api.ErrFrame
			}
			for x := 1; x < 256; x++ {
				b := bytes.Clone(right)
				b[i] ^= byte(x)
				refused(t, "one byte another one", b, want)
			}
		}
	}
}

// TestP105FourBytes: nor with up to four side by side in the payload and the sum.
func TestP105FourBytes(t *testing.T) {
	seed := uint32(9)
	for _, n := range []int{0, 1, 2, 5, 60} {
		right := seal(t, some(n, 10))
		for width := 1; width <= 4; width++ {
			for i := 3; i+width <= len(right); i++ {
				for range 200 {
					b := bytes.Clone(right)
					for j := range width {
						seed = seed*1664525 + 1013904223
						b[i+j] ^= byte(seed>>24) | 1
					}
					refused(t, "bytes side by side", b, api.ErrSum)
				}
			}
		}
	}
}

// TestP106Unchanged: what is handed in stays as it was, its spare room too.
func TestP106Unchanged(t *testing.T) {
	room := some(5000, 11)
	for _, n := range []int{0, 3, 100, api.MaxPayload, api.MaxPayload + 1} {
		in := bytes.Clone(room)
		frame.Seal(in[:n])
		if !bytes.Equal(in, room) {
			t.Errorf("Seal of %d bytes has changed what was handed in", n)
		}
	}
	right := framed(some(20, 12))
	wrong := bytes.Clone(right)
	wrong[len(wrong)-1]++
	for _, b := range [][]byte{right, wrong, right[:9], right[:3]} {
		in := append(bytes.Clone(b), room...)
		was := bytes.Clone(in)
		frame.Open(in[:len(b)])
		if !bytes.Equal(in, was) {
			t.Errorf("Open(% x) has changed what was handed in", b)
		}
	}
}

// scribble writes over a list and its spare room.
func scribble(b []byte) {
	b = b[:cap(b)]
	for i := range b {
		b[i] ^= 0xFF
	}
}

// TestP106NewMemory: an answer shares no byte with what was handed in, nor with another answer.
func TestP106NewMemory(t *testing.T) {
	for _, n := range []int{0, 1, 3, 100, api.MaxPayload} {
		payload := some(n, 13)
		want := framed(payload)

		in := append(bytes.Clone(payload), some(64, 14)...)[:n]
		b, again := seal(t, in), seal(t, in)
		scribble(again)
		scribble(in)
		if !bytes.Equal(b, want) {
			t.Errorf("Seal of %d bytes shares memory", n)
		}

		in = append(bytes.Clone(want), some(64, 15)...)[:len(want)]
		p, _ := frame.Open(in)
		other, _ := frame.Open(in)
		scribble(other)
		if !bytes.Equal(in, want) {
			t.Errorf("Open of %d bytes answers what was handed in", n)
		}
		scribble(in)
		if !bytes.Equal(p, payload) {
			t.Errorf("Open of %d bytes shares memory", n)
		}
	}
}

// FuzzOpen: any bytes are answered; what opens is Seal of what is answered, and a refusal has no payload.
func FuzzOpen(f *testing.F) {
	for _, b := range [][]byte{nil, {1, 0, 0, 0, 0, 0, 0}, {2, 0, 0, 0, 0, 0, 0}, framed(nil), framed([]byte("abc"))} {
		f.Add(b)
	}
	f.Fuzz(func(t *testing.T, b []byte) {
		p, e := frame.Open(b)
		if e != api.OK {
			if p != nil {
				t.Fatalf("% x, %d", p, e)
			}
			return
		}
		if again, e := frame.Seal(p); e != api.OK || !bytes.Equal(again, b) {
			t.Fatalf("Open(% x) is % x, whose frame is % x, %d", b, p, again, e)
		}
	})
}
