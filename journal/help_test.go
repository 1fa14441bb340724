package journal_test

import (
	"bytes"
	"encoding/binary"
	"slices"
	"testing"

	"sluice/api"
	"sluice/disk"
	"sluice/journal"
)

// dice: numbers that hang on its beginning alone.
type dice uint64

func (d *dice) roll(n int) int {
	*d = *d*6364136223846793005 + 1442695040888963407
	return int(uint64(*d) >> 33 % uint64(n))
}

func (d *dice) bytes(n int) []byte {
	b := make([]byte, n)
	for i := range b {
		b[i] = byte(d.roll(256))
	}
	return b
}

func made(t *testing.T, sectors int) *disk.Disk {
	t.Helper()
	d, e := disk.New(sectors)
	if e != api.OK {
		t.Fatalf("disk.New(%d): %d", sectors, e)
	}
	return d
}

func madeFrom(t *testing.T, image []byte) *disk.Disk {
	t.Helper()
	d, e := disk.From(image)
	if e != api.OK {
		t.Fatalf("disk.From of %d bytes: %d", len(image), e)
	}
	return d
}

func opened(t *testing.T, d *disk.Disk) *journal.Journal {
	t.Helper()
	j, e := journal.Open(d)
	if e != api.OK || j == nil {
		t.Fatalf("Open: %v, %d", j != nil, e)
	}
	return j
}

// begun is an empty journal on a new disk.
func begun(t *testing.T, sectors int) (*disk.Disk, *journal.Journal) {
	t.Helper()
	d := made(t, sectors)
	return d, opened(t, d)
}

// again gives the power back, and opens what the disk has.
func again(t *testing.T, d *disk.Disk) *journal.Journal {
	t.Helper()
	d.On()
	return opened(t, d)
}

// uneven tells bytes of which none is that of a place near it, nor that of 496 or 512 places on.
func uneven(seed, n int) []byte {
	b := make([]byte, n)
	for i := range b {
		b[i] = byte(seed + i*7 + i/128)
	}
	return b
}

// list tells a record of each length.
func list(lengths ...int) [][]byte {
	l := make([][]byte, len(lengths))
	for i, n := range lengths {
		l[i] = uneven(i*31+n, n)
	}
	return l
}

func put(t *testing.T, j *journal.Journal, b []byte, wanted api.Errno) {
	t.Helper()
	if e := j.Append(b); e != wanted {
		t.Errorf("Append of %d bytes: %d, want %d", len(b), e, wanted)
	}
}

func putAll(t *testing.T, j *journal.Journal, records [][]byte) {
	t.Helper()
	for _, b := range records {
		put(t, j, b, api.OK)
	}
}

func wantInt(t *testing.T, what string, got, want int) {
	t.Helper()
	if got != want {
		t.Errorf("%s: %d, want %d", what, got, want)
	}
}

func wantBytes(t *testing.T, what string, got, want []byte) {
	t.Helper()
	if bytes.Equal(got, want) {
		return
	}
	i := 0
	for i < min(len(got), len(want)) && got[i] == want[i] {
		i++
	}
	t.Errorf("%s: %d bytes, want %d; they are not the same from %d on", what, len(got), len(want), i)
}

// wantAll holds all that a journal that is not dead tells against what it must.
func wantAll(t *testing.T, j *journal.Journal, room int, records [][]byte) {
	t.Helper()
	if j.Dead() {
		t.Error("the journal is dead")
	}
	wantInt(t, "Room", j.Room(), room)
	wantInt(t, "Len", j.Len(), len(records))
	for i, b := range records {
		got, e := j.At(i)
		if e != api.OK {
			t.Errorf("At(%d): %d", i, e)
		}
		wantBytes(t, "At", got, b)
	}
	wantNone(t, j, -1, len(records))
}

// wantNone asks for records that there are not.
func wantNone(t *testing.T, j *journal.Journal, places ...int) {
	t.Helper()
	for _, i := range places {
		if got, e := j.At(i); len(got) != 0 || e != api.ErrArg {
			t.Errorf("At(%d): %d bytes, %d, want none, %d", i, len(got), e, api.ErrArg)
		}
	}
}

func wantDead(t *testing.T, j *journal.Journal) {
	t.Helper()
	if !j.Dead() {
		t.Error("the journal is not dead")
	}
	wantInt(t, "Len of a dead one", j.Len(), 0)
	wantInt(t, "Room of a dead one", j.Room(), 0)
	wantNone(t, j, -1, 0, 1)
}

// needs tells how many sectors a record takes, counted one by one.
func needs(n int) int {
	count := 1
	for n > 496 {
		n -= 496
		count++
	}
	return count
}

func needsAll(records [][]byte) int {
	sum := 0
	for _, b := range records {
		sum += needs(len(b))
	}
	return sum
}

// label is the mark of a sector.
func label(number, place, n, kind int) []byte {
	m := binary.LittleEndian.AppendUint32(nil, uint32(number))
	m = append(m, byte(place))
	m = binary.LittleEndian.AppendUint16(m, uint16(n))
	return append(m, byte(kind))
}

// laid tells the sectors of a record, one behind the other.
func laid(number int, b []byte) []byte {
	count := needs(len(b))
	rest := slices.Concat(b, make([]byte, count*496-len(b)))
	var all []byte
	for place := range count {
		kind := 1
		if place == count-1 {
			kind = 2
		}
		m := label(number, place, len(b), kind)
		all = slices.Concat(all, m, rest[place*496:(place+1)*496], m)
	}
	return all
}

// laidAll tells the sectors of all records, and zeros up to so many sectors.
func laidAll(sectors int, records [][]byte) []byte {
	var all []byte
	for i, b := range records {
		all = append(all, laid(i+1, b)...)
	}
	return append(all, make([]byte, sectors*512-len(all))...)
}
