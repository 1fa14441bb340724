package frame

import (
	"hash/crc32"
	"testing"
)

// plainT makes T(t) as P101 says it, turn by turn.
func plainT(t uint32) uint32 {
	for range 8 {
		if t%2 == 1 {
			t = t>>1 ^ 3988292384
		} else {
			t >>= 1
		}
	}
	return t
}

// plainSum makes the sum as P101 says it, without a table.
func plainSum(b []byte) uint32 {
	s := uint32(4294967295)
	for _, x := range b {
		s = s>>8 ^ plainT(s&255^uint32(x))
	}
	return ^s
}

// TestP101Known: sums that are known from elsewhere.
func TestP101Known(t *testing.T) {
	for _, x := range []struct {
		text string
		want uint32
	}{
		{"", 0},
		{"\x00", 0xD202EF8D},
		{"a", 0xE8B7BE43},
		{"abc", 0x352441C2},
		{"123456789", 0xCBF43926},
		{"\x00\x00\x00\x00", 0x2144DF1C},
		{"\xFF\xFF\xFF\xFF", 0xFFFFFFFF},
	} {
		if got := sum([]byte(x.text)); got != x.want {
			t.Errorf("sum(%q): %08X, want %08X", x.text, got, x.want)
		}
	}
	if sum(nil) != 0 {
		t.Errorf("the sum of no bytes: %08X", sum(nil))
	}
}

// TestP101EveryByte: each byte alone and behind another one, so that every entry of the table is looked at in both halves.
func TestP101EveryByte(t *testing.T) {
	for i := range 256 {
		for _, b := range [][]byte{{byte(i)}, {byte(i), 0}, {0, byte(i)}, {0xA5, byte(i), 0x5A}} {
			if got, want := sum(b), plainSum(b); got != want {
				t.Errorf("sum(% x): %08X, want %08X", b, got, want)
			}
		}
	}
}

// TestP101Long: bytes of all lengths up to some hundred, and long ones.
func TestP101Long(t *testing.T) {
	b := make([]byte, 70000)
	for i := range b {
		b[i] = byte(i*i + i>>5)
	}
	lengths := []int{4095, 4096, 4097, 4099, 4103, 65535, 65536, 70000}
	for n := range 300 {
		lengths = append(lengths, n)
	}
	for _, n := range lengths {
		got := sum(b[:n])
		if want := plainSum(b[:n]); got != want {
			t.Errorf("sum of %d bytes: %08X, want %08X", n, got, want)
		}
		if want := crc32.ChecksumIEEE(b[:n]); got != want {
			t.Errorf("sum of %d bytes: %08X, the library's %08X", n, got, want)
		}
	}
}
