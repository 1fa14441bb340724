package number_test

import (
	"bytes"
	"encoding/binary"
	"math"
	"slices"
	"testing"

	"sluice/api"
	"sluice/number"
)

// wantForm asserts that a number and its bytes are each other's, whatever stands behind them.
func wantForm(t *testing.T, u uint64, want []byte) {
	t.Helper()
	if b := number.Bytes(u); !bytes.Equal(b, want) {
		t.Errorf("%d is written % x, want % x", u, b, want)
	}
	for _, behind := range [][]byte{nil, {0}, {255, 255}} {
		if got, at, e := number.Read(slices.Concat(want, behind)); got != u || at != len(want) || e != api.OK {
			t.Errorf("% x is read %d, %d, %d", want, got, at, e)
		}
	}
	for n := range want {
		wantNone(t, want[:n], n)
	}
}

func wantNone(t *testing.T, b []byte, place int) {
	t.Helper()
	if u, at, e := number.Read(b); u != 0 || at != place || e != api.ErrWire {
		t.Errorf("% x is read %d, %d, %d; want 0, %d, %d", b, u, at, e, place, api.ErrWire)
	}
}

// around tells numbers at and near each power of two.
func around() []uint64 {
	list := []uint64{300, math.MaxUint64}
	for i := range 64 {
		u := uint64(1) << i
		list = append(list, u-1, u, u+1)
	}
	return list
}

func TestP201Forms(t *testing.T) {
	wantForm(t, 0, []byte{0})
	wantForm(t, 127, []byte{0x7F})
	wantForm(t, 300, []byte{0xAC, 0x02})
	for _, u := range around() {
		wantForm(t, u, binary.AppendUvarint(nil, u))
	}
}

// What is no form: a last byte of 0, a tenth byte that is not 1; whatever stands behind it.
func TestP201OneForm(t *testing.T) {
	for _, b := range [][]byte{{0x80, 0}, {0xAC, 0x82, 0}, {0xFF, 0x80, 0x80, 0}} {
		wantNone(t, b, 0)
		wantNone(t, append(b, 1), 0)
	}
	nine := bytes.Repeat([]byte{0x80}, 9)
	for last := range 256 {
		b := append(slices.Clone(nine), byte(last))
		if last == 1 {
			wantForm(t, 1<<63, b)
			continue
		}
		wantNone(t, b, 0)
		wantNone(t, append(b, 1), 0)
	}
}

func TestP201Signed(t *testing.T) {
	for u, n := range []int{0, -1, 1, -2, 2, -3} {
		wantSigned(t, n, uint64(u))
	}
	wantSigned(t, 150, 300)
	wantSigned(t, math.MaxInt64, math.MaxUint64-1)
	wantSigned(t, math.MinInt64, math.MaxUint64)
	for _, u := range around() {
		half := int(u / 2)
		if u%2 == 1 {
			half = -half - 1
		}
		wantSigned(t, half, u)
	}
}

func wantSigned(t *testing.T, n int, u uint64) {
	t.Helper()
	if got := number.Fold(n); got != u {
		t.Errorf("%d is written as %d, want %d", n, got, u)
	}
	if got := number.Unfold(u); got != n {
		t.Errorf("%d means %d, want %d", u, got, n)
	}
}

// Bytes tells new memory, and Read changes nothing.
func TestP211Own(t *testing.T) {
	for _, u := range around() {
		one, two := number.Bytes(u), number.Bytes(u)
		for i := range one[:cap(one)] {
			one[:cap(one)][i] = '#'
		}
		kept := slices.Clone(two)
		number.Read(two)
		if !bytes.Equal(two, kept) || !bytes.Equal(kept, number.Bytes(u)) {
			t.Errorf("%d: % x, % x", u, two, number.Bytes(u))
		}
	}
}
