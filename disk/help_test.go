package disk_test

import (
	"bytes"
	"math"
	"slices"
	"testing"

	"sluice/api"
	"sluice/disk"
)

// dice: numbers that hang on its beginning alone.
type dice uint64

func (d *dice) roll(n int) int {
	*d = *d*6364136223846793005 + 1442695040888963407
	return int(uint64(*d) >> 33 % uint64(n))
}

func (d *dice) bytes(n int) []byte {
	b := make([]byte, n)
	for i := range b {
		b[i] = byte(d.roll(256))
	}
	return b
}

func made(t *testing.T, sectors int) *disk.Disk {
	t.Helper()
	d, e := disk.New(sectors)
	if e != api.OK || d == nil {
		t.Fatalf("New(%d): %v, %d", sectors, d != nil, e)
	}
	return d
}

func madeFrom(t *testing.T, image []byte) *disk.Disk {
	t.Helper()
	d, e := disk.From(image)
	if e != api.OK || d == nil {
		t.Fatalf("From of %d bytes: %v, %d", len(image), d != nil, e)
	}
	return d
}

// filled is a disk with a sector for each byte, full of it.
func filled(t *testing.T, texts string) *disk.Disk {
	t.Helper()
	return madeFrom(t, sectors(texts))
}

func full(c byte) []byte { return bytes.Repeat([]byte{c}, 512) }

// sectors tells 512 bytes for each one.
func sectors(texts string) []byte {
	var all []byte
	for i := range len(texts) {
		all = append(all, full(texts[i])...)
	}
	return all
}

// mixed tells a sector whose first bytes, so many, are of one kind, the others of another one.
func mixed(n int, first, other byte) []byte {
	return append(bytes.Repeat([]byte{first}, n), bytes.Repeat([]byte{other}, 512-n)...)
}

// uneven tells a sector in which no byte is that of a place near it.
func uneven(seed int) []byte {
	b := make([]byte, 512)
	for i := range b {
		b[i] = byte(seed + i*7 + i/256)
	}
	return b
}

func want(t *testing.T, what string, got, want api.Errno) {
	t.Helper()
	if got != want {
		t.Errorf("%s: %d, want %d", what, got, want)
	}
}

func wantInt(t *testing.T, what string, got, want int) {
	t.Helper()
	if got != want {
		t.Errorf("%s: %d, want %d", what, got, want)
	}
}

func wantOn(t *testing.T, d *disk.Disk, want bool) {
	t.Helper()
	if got := d.IsOn(); got != want {
		t.Errorf("IsOn: %v, want %v", got, want)
	}
}

// firstOther tells the first place at which two lists of bytes are not the same, or -1.
func firstOther(a, b []byte) int {
	for i := range min(len(a), len(b)) {
		if a[i] != b[i] {
			return i
		}
	}
	if len(a) != len(b) {
		return min(len(a), len(b))
	}
	return -1
}

func wantBytes(t *testing.T, what string, got, want []byte) {
	t.Helper()
	if i := firstOther(got, want); i >= 0 {
		t.Errorf("%s: %d bytes, want %d; they are not the same from %d on", what, len(got), len(want), i)
	}
}

// wantRead holds a sector of a disk that is on against its bytes.
func wantRead(t *testing.T, d *disk.Disk, sector int, wanted []byte) {
	t.Helper()
	got, e := d.Read(sector)
	want(t, "Read", e, api.OK)
	wantBytes(t, "Read", got, wanted)
}

func wantNoRead(t *testing.T, d *disk.Disk, sector int, wanted api.Errno) {
	t.Helper()
	got, e := d.Read(sector)
	if e != wanted || len(got) != 0 {
		t.Errorf("Read(%d): %d bytes, %d, want none, %d", sector, len(got), e, wanted)
	}
}

// wantTrace holds the count of the writes and their places against what they must be.
func wantTrace(t *testing.T, d *disk.Disk, writes int, trace ...int) {
	t.Helper()
	wantInt(t, "Writes", d.Writes(), writes)
	if got := d.Trace(); !slices.Equal(got, trace) {
		t.Errorf("Trace: %v, want %v", got, trace)
	}
}

// outside tells places that a disk of so many sectors doesn't have.
func outside(n int) []int {
	return []int{-1, -2, -n, n, n + 1, n * 512, 65536, 65537, math.MaxInt, math.MinInt}
}
