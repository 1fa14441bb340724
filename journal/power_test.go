package journal_test

import (
	"bytes"
	"slices"
	"testing"

	"sluice/api"
	"sluice/disk"
)

// history is what must be on a disk: all records that were answered OK, and those that were not but proved to be there.
type history struct {
	records [][]byte
	doubt   []byte // the record of the last Append, if it was answered ErrDown
	doubted bool
}

// settle holds what the next Open has against it: the doubtful record is there as a whole, in its place, or not at all.
func (h *history) settle(t *testing.T, d *disk.Disk) bool {
	t.Helper()
	j := opened(t, d)
	if h.doubted && j.Len() == len(h.records)+1 {
		h.records = append(slices.Clip(h.records), h.doubt)
	}
	h.doubted = false
	wantAll(t, j, d.Sectors()-needsAll(h.records), h.records)
	return !t.Failed()
}

// append appends and notes what must be there.
func (h *history) append(t *testing.T, d *disk.Disk, b []byte) {
	t.Helper()
	e := opened(t, d).Append(b)
	switch e {
	case api.OK:
		h.records = append(slices.Clip(h.records), b)
	case api.ErrDown:
		h.doubt, h.doubted = b, true
	case api.ErrSpace:
	default:
		t.Errorf("Append: %d", e)
	}
	d.On()
}

// Each byte of each write of each of a few records in turn: three times the power fails, then a record lasts.
func TestP2108EveryByte(t *testing.T) {
	lengths := []int{3, 600, 1300}
	for _, first := range lengths {
		for _, second := range lengths {
			for torn := range 513 {
				d, h := made(t, 12), &history{}
				h.append(t, d, uneven(9, 4))
				for i, n := range []int{first, second, lengths[torn%3]} {
					d.Arm(torn*(i+1)%needs(n), (torn+i*171)%513)
					h.append(t, d, uneven(torn+i, n))
					if !h.settle(t, d) {
						t.Fatalf("%d, %d, torn %d, failing %d", first, second, torn, i)
					}
				}
				d.Arm(-1, 0)
				h.append(t, d, uneven(torn, 500))
				if !h.settle(t, d) {
					t.Fatalf("%d, %d, torn %d", first, second, torn)
				}
			}
		}
	}
}

// Each pair of places at which two writes in a row fail, of two records in the same place.
func TestP2108TwoInARow(t *testing.T) {
	points := []int{0, 1, 4, 5, 6, 7, 8, 9, 200, 503, 504, 505, 508, 509, 510, 511, 512}
	for _, one := range []int{10, 900} {
		for _, two := range []int{10, 266, 900} {
			for at := range needs(one) * len(points) {
				for to := range needs(two) * len(points) {
					d, h := made(t, 6), &history{}
					d.Arm(at/len(points), points[at%len(points)])
					h.append(t, d, uneven(1, one))
					h.settle(t, d)
					d.Arm(to/len(points), points[to%len(points)])
					h.append(t, d, uneven(2, two))
					h.settle(t, d)
					h.append(t, d, uneven(3, 20))
					if !h.settle(t, d) {
						t.Fatalf("%d, %d, at %d and %d", one, two, at, to)
					}
				}
			}
		}
	}
}

// Any number of records, powers that fail at any byte, journals that are left at any time, till the disk is full.
func TestP2108AnyHistory(t *testing.T) {
	x := dice(10)
	for round := range 400 {
		d, h := made(t, 5+x.roll(36)), &history{}
		for range 40 {
			if x.roll(3) > 0 {
				d.Arm(x.roll(4), x.roll(514))
			}
			h.append(t, d, anyRecord(&x))
			if x.roll(4) > 0 && !h.settle(t, d) {
				t.Fatalf("round %d", round)
			}
			if h.doubted && !h.settle(t, d) {
				t.Fatalf("round %d", round)
			}
		}
	}
}

// anyRecord tells bytes that may look like a sector's, too.
func anyRecord(x *dice) []byte {
	n := []int{x.roll(20), x.roll(600), x.roll(1600), 496 * x.roll(4)}[x.roll(4)]
	switch x.roll(4) {
	case 0:
		return bytes.Repeat([]byte{2}, n)
	case 1:
		return bytes.Repeat(laid(1+x.roll(4), nil), 1+n/512)[:n]
	}
	return x.bytes(n)
}
