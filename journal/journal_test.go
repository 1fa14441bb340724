package journal_test

import (
	"bytes"
	"math"
	"slices"
	"testing"

	"sluice/api"
	"sluice/disk"
	"sluice/journal"
)

func wantRefused(t *testing.T, d *disk.Disk, wanted api.Errno) {
	t.Helper()
	if j, e := journal.Open(d); j != nil || e != wanted {
		t.Errorf("Open: %v, %d, want nil, %d", j != nil, e, wanted)
	}
}

func TestP2103Refused(t *testing.T) {
	wantRefused(t, nil, api.ErrArg)
	d := madeFrom(t, laidAll(4, list(5, 6)))
	d.Off()
	wantRefused(t, d, api.ErrDown)
	d.On()
	wantAll(t, opened(t, d), 2, list(5, 6))
}

// Nothing is written, and what is armed stays so.
func TestP2103WritesNothing(t *testing.T) {
	image := laidAll(20, list(5, 6000, 0))
	image[15*512] = 4 // the beginning of a mark
	d := madeFrom(t, image)
	d.Arm(0, 0)
	for range 3 {
		wantAll(t, opened(t, d), 5, list(5, 6000, 0))
	}
	wantInt(t, "writes", d.Writes(), 0)
	wantBytes(t, "Image", d.Image(), image)
	if d.Write(0, image[:512]) != api.ErrDown {
		t.Error("the disk was armed, and is not")
	}
}

// Any bytes are a journal's, and one that goes on from there is good.
func TestP2103AnyBytes(t *testing.T) {
	x := dice(5)
	for range 200 {
		n := 1 + x.roll(6)
		image := x.bytes(n * 512)
		d := madeFrom(t, image)
		j := opened(t, d)
		wantAll(t, j, n, nil)
		put(t, j, uneven(3, 7), api.OK)
		wantAll(t, opened(t, d), n-1, [][]byte{uneven(3, 7)})
	}
}

func TestP2104FoundOff(t *testing.T) {
	for _, n := range []int{0, 5, 8192, 8193} { // what the record would be answered else is all the same
		d, j := begun(t, 3)
		put(t, j, uneven(1, 5), api.OK)
		d.Off()
		if j.Dead() {
			t.Error("dead ahead of an Append")
		}
		put(t, j, uneven(1, n), api.ErrDown)
		wantDead(t, j)
		wantInt(t, "writes", d.Writes(), 1)
	}
}

// It does not ask the disk: the power may be gone, and be back, and no Append has seen it.
func TestP2104NotSeen(t *testing.T) {
	d, j := begun(t, 6)
	putAll(t, j, list(5, 6))
	d.Off()
	wantAll(t, j, 4, list(5, 6))
	d.On()
	wantAll(t, j, 4, list(5, 6))
	put(t, j, list(5, 6, 700)[2], api.OK)
	wantAll(t, j, 2, list(5, 6, 700))
	wantAll(t, opened(t, d), 2, list(5, 6, 700))
}

// A dead one stays so, whatever becomes of the power.
func TestP2104Stays(t *testing.T) {
	for _, torn := range []int{0, 300, 512} {
		d, j := begun(t, 6)
		put(t, j, uneven(1, 5), api.OK)
		d.Arm(0, torn)
		put(t, j, uneven(2, 5), api.ErrDown)
		wantDead(t, j)
		d.On()
		wantDead(t, j)
		writes := d.Writes()
		for _, n := range []int{0, 5, 8193} {
			put(t, j, uneven(3, n), api.ErrDown)
			wantDead(t, j)
		}
		wantInt(t, "writes", d.Writes(), writes)
		if !d.IsOn() {
			t.Error("the disk is off")
		}
	}
}

// Refusals by the record's length don't kill.
func TestP2104OthersDoNot(t *testing.T) {
	d, j := begun(t, 3)
	put(t, j, uneven(1, 8193), api.ErrLong)
	put(t, j, uneven(1, 8192), api.ErrSpace)
	put(t, j, uneven(1, 1489), api.ErrSpace)
	wantAll(t, j, 3, nil)
	wantInt(t, "writes", d.Writes(), 0)
	put(t, j, uneven(1, 1488), api.OK)
	put(t, j, nil, api.ErrSpace)
	wantAll(t, j, 0, [][]byte{uneven(1, 1488)})
	wantInt(t, "writes", d.Writes(), 3)
}

func TestP2105Order(t *testing.T) {
	d, j := begun(t, 1)
	put(t, j, uneven(1, 8193), api.ErrLong) // it would take more sectors than there are, too
	put(t, j, uneven(1, 497), api.ErrSpace)
	d.Off()
	put(t, j, uneven(1, 8193), api.ErrDown)
	d, j = begun(t, 1)
	d.Off()
	put(t, j, uneven(1, 497), api.ErrDown)
	d.On()
	put(t, j, uneven(1, 8193), api.ErrDown)
	put(t, j, uneven(1, 497), api.ErrDown)
	put(t, j, nil, api.ErrDown)
}

func TestP2105Long(t *testing.T) {
	d, j := begun(t, 100)
	for _, n := range []int{8193, 8432, 8433, 10000, 65536, 65541, 1 << 20} {
		put(t, j, make([]byte, n), api.ErrLong)
	}
	put(t, j, uneven(1, 8192), api.OK)
	wantAll(t, opened(t, d), 83, [][]byte{uneven(1, 8192)})
}

// A record that takes all that is left has room, one that takes a sector more has not.
func TestP2105Space(t *testing.T) {
	for room := 1; room <= 17; room++ {
		d, j := begun(t, room+2)
		putAll(t, j, list(1, 2))
		most := min(room*496, 8192)
		if room < 17 {
			put(t, j, uneven(1, most+1), api.ErrSpace)
			wantAll(t, j, room, list(1, 2))
			wantInt(t, "writes", d.Writes(), 2)
		}
		put(t, j, uneven(1, most), api.OK)
		wantAll(t, opened(t, d), 0, append(list(1, 2), uneven(1, most)))
		put(t, j, nil, api.ErrSpace)
	}
}

// The sectors are written from the first to the last, each once, and none else.
func TestP2105Writes(t *testing.T) {
	d, j := begun(t, 60)
	put(t, j, uneven(1, 497), api.OK)
	put(t, j, uneven(2, 8192), api.OK)
	put(t, j, nil, api.OK)
	var want []int
	for i := range 20 {
		want = append(want, i)
	}
	if got := d.Trace(); !slices.Equal(got, want) {
		t.Errorf("Trace: %v, want %v", got, want)
	}
	j = opened(t, d)
	put(t, j, uneven(3, 993), api.OK)
	if got := d.Trace()[20:]; !slices.Equal(got, []int{20, 21, 22}) {
		t.Errorf("Trace: %v, want 20 to 22", got)
	}
}

// Wherever a write fails: no further one is begun, and what was there ahead of it is there.
func TestP2105Fails(t *testing.T) {
	b := uneven(4, 2000) // 5 sectors
	for after := range 5 {
		for _, torn := range []int{0, 1, 7, 8, 9, 503, 504, 505, 511, 512} {
			d, j := begun(t, 12)
			put(t, j, uneven(1, 10), api.OK)
			d.Arm(after, torn)
			put(t, j, b, api.ErrDown)
			wantDead(t, j)
			wantInt(t, "writes", d.Writes(), 1+after+1)
			image := append(laid(1, uneven(1, 10)), laid(2, b)[:after*512+torn]...)
			wantBytes(t, "Image", d.Image(), append(image, make([]byte, 12*512-len(image))...))
			records, room := [][]byte{uneven(1, 10)}, 11
			if after == 4 && torn == 512 {
				records, room = append(records, b), 6
			}
			wantAll(t, again(t, d), room, records)
		}
	}
	d, j := begun(t, 12)
	d.Arm(5, 0)
	put(t, j, b, api.OK)
	wantAll(t, j, 7, [][]byte{b})
	put(t, j, nil, api.ErrDown)
	wantDead(t, j)
}

func TestP2106At(t *testing.T) {
	_, j := begun(t, 60)
	wantNone(t, j, 0, 1, -1, math.MaxInt, math.MinInt)
	records := list(edges()[:12]...)
	for i := range records {
		put(t, j, records[i], api.OK)
		wantAll(t, j, 60-needsAll(records[:i+1]), records[:i+1])
	}
	wantNone(t, j, len(records)+1, 60, 512, math.MaxInt, math.MinInt, -2, -len(records))
}

// None of the looks asks the disk: neither while it is off, nor where its bytes are others meanwhile.
func TestP2106AsksNoDisk(t *testing.T) {
	d, j := begun(t, 8)
	putAll(t, j, list(5, 600, 0))
	for i := range 8 {
		d.Write(i, bytes.Repeat([]byte{'x'}, 512))
	}
	wantAll(t, j, 4, list(5, 600, 0))
	d.Off()
	wantAll(t, j, 4, list(5, 600, 0))
	put(t, j, nil, api.ErrDown)
	wantDead(t, j)
	wantNone(t, j, 2, 3, math.MaxInt, math.MinInt)
}

// The chapter's table.
func TestP2101Table(t *testing.T) {
	wantRefused(t, nil, api.ErrArg)
	d, j := begun(t, 40)
	wantAll(t, j, 40, nil)
	put(t, j, []byte{0x61, 0x62}, api.OK)
	put(t, j, nil, api.OK)
	long := uneven(3, 497)
	put(t, j, long, api.OK)
	records := [][]byte{[]byte("ab"), nil, long}
	wantAll(t, j, 36, records)
	wantBytes(t, "Image", d.Image(), laidAll(40, records))
	put(t, j, make([]byte, 8193), api.ErrLong)
	wantNone(t, j, 3, -1)

	six := uneven(4, 600)
	d.Arm(1, 300)
	put(t, j, six, api.ErrDown)
	wantDead(t, j)
	torn := append(bytes.Clone(laid(4, six)[:812]), make([]byte, 212)...)
	wantBytes(t, "sectors 4 and 5", d.Image()[4*512:6*512], torn)
	j = again(t, d)
	wantAll(t, j, 36, records)
	put(t, j, []byte{0x63}, api.OK)
	wantBytes(t, "sector 4", d.Image()[4*512:5*512], laid(4, []byte{0x63}))
	wantBytes(t, "sector 5", d.Image()[5*512:6*512], torn[512:])
	j = opened(t, d)
	records = append(records, []byte{0x63})
	wantAll(t, j, 35, records)

	d.Arm(0, 511)
	put(t, j, []byte{0x64}, api.ErrDown)
	wantInt(t, "the end of sector 5", int(d.Image()[6*512-1]), 0)
	j = again(t, d)
	wantAll(t, j, 35, records)
	d.Arm(0, 512)
	put(t, j, []byte{0x65}, api.ErrDown)
	wantAll(t, again(t, d), 34, append(records, []byte{0x65}))
}
