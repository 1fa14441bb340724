package journal_test

import (
	"bytes"
	"testing"

	"sluice/api"
)

// spoil overwrites a list's bytes, its spare room too.
func spoil(b []byte) {
	for i := range b[:cap(b)] {
		b[:cap(b)][i] = '#'
	}
}

func TestP2107AppendKeepsNothing(t *testing.T) {
	for _, n := range []int{0, 1, 10, 495, 496, 497, 1000, 8192} {
		d, j := begun(t, 40)
		all := uneven(1, n+600)
		b := all[:n]
		put(t, j, b, api.OK)
		wantBytes(t, "what was handed in", all, uneven(1, n+600))
		spoil(all)
		wantAll(t, j, 40-needs(n), [][]byte{uneven(1, n)})
		wantAll(t, opened(t, d), 40-needs(n), [][]byte{uneven(1, n)})
	}
}

// Nor is anything changed where the record is refused, or the power fails.
func TestP2107RefusedChangesNothing(t *testing.T) {
	d, j := begun(t, 3)
	all := uneven(1, 9000)
	put(t, j, all[:8193], api.ErrLong)
	put(t, j, all[:8192], api.ErrSpace)
	d.Arm(1, 100)
	put(t, j, all[:700], api.ErrDown)
	put(t, j, all[:700], api.ErrDown)
	wantBytes(t, "what was handed in", all, uneven(1, 9000))
}

func TestP2107AtIsNew(t *testing.T) {
	d, j := begun(t, 40)
	records := list(10, 0, 600, 496)
	putAll(t, j, records)
	for range 2 {
		for i := range records {
			one, _ := j.At(i)
			two, _ := j.At(i)
			spoil(one)
			wantBytes(t, "another At", two, records[i])
			spoil(two)
		}
		wantAll(t, j, 35, records)
		wantAll(t, opened(t, d), 35, records)
		j = opened(t, d)
	}
}

// What At has told stays as it is when the journal goes on, and when it dies.
func TestP2107AtStays(t *testing.T) {
	d, j := begun(t, 40)
	put(t, j, uneven(1, 600), api.OK)
	told, _ := j.At(0)
	put(t, j, uneven(2, 600), api.OK)
	d.Off()
	put(t, j, uneven(3, 600), api.ErrDown)
	wantBytes(t, "what At has told", told, uneven(1, 600))
}

// Spare room of what is told may be appended to.
func TestP2107SpareRoom(t *testing.T) {
	_, j := begun(t, 40)
	records := list(10, 11, 12)
	putAll(t, j, records)
	for i := range records {
		b, _ := j.At(i)
		_ = append(b, bytes.Repeat([]byte{'#'}, 100)...)
	}
	wantAll(t, j, 37, records)
}

func TestP2107TwoJournals(t *testing.T) {
	d, j := begun(t, 10)
	e, k := begun(t, 20)
	b := uneven(1, 600)
	put(t, j, b, api.OK)
	put(t, k, b, api.OK)
	put(t, k, uneven(2, 5), api.OK)
	d.Off()
	put(t, j, b, api.ErrDown)
	wantDead(t, j)
	wantAll(t, k, 17, [][]byte{b, uneven(2, 5)})
	wantBytes(t, "Image", e.Image(), laidAll(20, [][]byte{b, uneven(2, 5)}))
	wantAll(t, again(t, d), 8, [][]byte{b})
}

// Two journals on one disk: every call ends.
func TestP2107OneDisk(t *testing.T) {
	x := dice(6)
	for range 30 {
		d, j := begun(t, 9)
		k := opened(t, d)
		for range 40 {
			for _, one := range []interface {
				Append([]byte) api.Errno
				At(int) ([]byte, api.Errno)
				Room() int
			}{j, k} {
				one.Append(x.bytes(x.roll(1200)))
				one.At(x.roll(5))
				if one.Room() < 0 {
					t.Fatal("Room below 0")
				}
			}
			opened(t, d)
		}
	}
}
