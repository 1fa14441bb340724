package disk_test

import (
	"math"
	"testing"

	"sluice/api"
	"sluice/disk"
)

// The chapter's table, row by row.
func TestP2004Examples(t *testing.T) {
	a, b, c := full('a'), full('b'), full('c')
	d := made(t, 3)
	want(t, "Write(1, A)", d.Write(1, a), api.OK)
	want(t, "Write(3, A)", d.Write(3, a), api.ErrSector)
	want(t, "Write(-1, nothing)", d.Write(-1, nil), api.ErrSector)
	want(t, "Write(0, 511 bytes)", d.Write(0, a[:511]), api.ErrArg)
	wantTrace(t, d, 1, 1)
	d.Arm(1, 2)
	want(t, "Write(0, B)", d.Write(0, b), api.OK)
	want(t, "Write(1, C)", d.Write(1, c), api.ErrDown)
	want(t, "Write(1, C)", d.Write(1, c), api.ErrDown)
	wantTrace(t, d, 3, 1, 0, 1)
	wantOn(t, d, false)
	wantNoRead(t, d, 1, api.ErrDown)
	wantNoRead(t, d, 9, api.ErrDown)
	d.On()
	wantRead(t, d, 1, mixed(2, 'c', 'a'))
	d.Arm(0, 9)
	d.Arm(-1, 9)
	want(t, "Write(2, B)", d.Write(2, b), api.OK)
	d.Arm(0, 999)
	want(t, "Write(2, C)", d.Write(2, c), api.ErrDown)
	wantBytes(t, "Image", d.Image()[1024:], c)
	d.Arm(0, 0)
	d.On()
	want(t, "Write(2, A)", d.Write(2, a), api.OK)
	wantRead(t, d, 2, a)
}

func TestP2001New(t *testing.T) {
	for _, n := range []int{0, -1, -512, 65537, 65536 * 512, math.MaxInt, math.MinInt} {
		if d, e := disk.New(n); d != nil || e != api.ErrArg {
			t.Errorf("New(%d): %v, %d", n, d != nil, e)
		}
	}
	for _, n := range []int{1, 2, 63, 64, 65, 511, 512, 513, 2048, 65535, 65536} {
		d := made(t, n)
		wantInt(t, "Sectors", d.Sectors(), n)
		wantOn(t, d, true)
		wantTrace(t, d, 0)
		wantBytes(t, "Image", d.Image(), make([]byte, n*512))
		wantRead(t, d, n-1, full(0))
		wantNoRead(t, d, n, api.ErrSector)
	}
}

// A new disk is not armed, with no number of writes ahead of it at which its power fails.
func TestP2001NotArmed(t *testing.T) {
	for _, d := range []*disk.Disk{made(t, 2), filled(t, "ab")} {
		for i := range 1000 {
			want(t, "Write", d.Write(i%2, uneven(i)), api.OK)
		}
		wantOn(t, d, true)
		wantRead(t, d, 0, uneven(998))
		wantRead(t, d, 1, uneven(999))
	}
}

func TestP2001SectorsWhileOff(t *testing.T) {
	d := made(t, 5)
	d.Off()
	wantInt(t, "Sectors", d.Sectors(), 5)
	d.On()
	d.Arm(0, 3)
	d.Write(0, full(1))
	wantInt(t, "Sectors", d.Sectors(), 5)
}

func TestP2002From(t *testing.T) {
	for _, n := range []int{0, 1, 2, 511, 513, 1023, 1025, 65536*512 - 1, 65536*512 + 1, 65537 * 512, 65537*512 + 1} {
		if d, e := disk.From(make([]byte, n)); d != nil || e != api.ErrArg {
			t.Errorf("From of %d bytes: %v, %d", n, d != nil, e)
		}
	}
	if d, e := disk.From(nil); d != nil || e != api.ErrArg {
		t.Errorf("From(nil): %v, %d", d != nil, e)
	}
	x := dice(1)
	for _, n := range []int{1, 2, 3, 64, 100, 2048} {
		image := x.bytes(n * 512)
		d := madeFrom(t, image)
		wantInt(t, "Sectors", d.Sectors(), n)
		wantOn(t, d, true)
		wantTrace(t, d, 0)
		wantBytes(t, "Image", d.Image(), image)
		for i := range n {
			wantRead(t, d, i, image[i*512:i*512+512])
		}
	}
}

func TestP2002Greatest(t *testing.T) {
	image := make([]byte, 65536*512)
	image[0], image[512*65535], image[len(image)-1] = 1, 2, 3
	d := madeFrom(t, image)
	wantInt(t, "Sectors", d.Sectors(), 65536)
	wantBytes(t, "Image", d.Image(), image)
	wantRead(t, d, 65535, image[65535*512:])
}

func TestP2003Read(t *testing.T) {
	d := filled(t, "abc")
	for i, c := range []byte("abc") {
		wantRead(t, d, i, full(c))
		wantRead(t, d, i, full(c))
	}
	for _, i := range outside(3) {
		wantNoRead(t, d, i, api.ErrSector)
	}
	d.Off()
	wantNoRead(t, d, 0, api.ErrDown)
	for _, i := range outside(3) {
		wantNoRead(t, d, i, api.ErrDown)
	}
	d.On()
	wantRead(t, d, 2, full('c'))
	wantTrace(t, d, 0)
}

// A Read is no write: what is armed waits on.
func TestP2003ReadIsNoWrite(t *testing.T) {
	d := filled(t, "ab")
	d.Arm(1, 5)
	for range 3 {
		wantRead(t, d, 0, full('a'))
		d.Image()
		d.Trace()
	}
	want(t, "Write", d.Write(0, full('c')), api.OK)
	wantRead(t, d, 0, full('c'))
	want(t, "Write", d.Write(1, full('d')), api.ErrDown)
	wantBytes(t, "Image", d.Image(), append(full('c'), mixed(5, 'd', 'b')...))
}

func TestP2004Write(t *testing.T) {
	d := filled(t, "abc")
	want(t, "Write", d.Write(1, uneven(3)), api.OK)
	wantRead(t, d, 0, full('a'))
	wantRead(t, d, 1, uneven(3))
	wantRead(t, d, 2, full('c'))
	want(t, "Write", d.Write(2, uneven(4)), api.OK)
	want(t, "Write", d.Write(0, uneven(5)), api.OK)
	want(t, "Write", d.Write(1, uneven(6)), api.OK)
	wantBytes(t, "Image", d.Image(), append(append(uneven(5), uneven(6)...), uneven(4)...))
	wantTrace(t, d, 4, 1, 2, 0, 1)
}

// What is refused writes nothing, is not counted, and takes nothing from what is armed.
func TestP2004Refused(t *testing.T) {
	d := filled(t, "ab")
	d.Arm(1, 4)
	for _, i := range outside(2) {
		want(t, "Write of no sector", d.Write(i, full('x')), api.ErrSector)
		want(t, "Write of no sector, no bytes", d.Write(i, nil), api.ErrSector)
	}
	for _, n := range []int{0, 1, 496, 511, 513, 1024} {
		want(t, "Write of other bytes", d.Write(0, make([]byte, n)), api.ErrArg)
	}
	wantTrace(t, d, 0)
	wantOn(t, d, true)
	wantBytes(t, "Image", d.Image(), sectors("ab"))
	want(t, "Write", d.Write(0, full('c')), api.OK)
	want(t, "Write of no sector", d.Write(2, full('x')), api.ErrSector)
	want(t, "Write of other bytes", d.Write(0, full('x')[1:]), api.ErrArg)
	want(t, "Write", d.Write(1, full('d')), api.ErrDown)
	wantTrace(t, d, 2, 0, 1)
	for _, i := range append(outside(2), 0, 1) {
		want(t, "Write while it is off", d.Write(i, full('x')), api.ErrDown)
		want(t, "Write while it is off, no bytes", d.Write(i, nil), api.ErrDown)
	}
	wantTrace(t, d, 2, 0, 1)
	wantBytes(t, "Image", d.Image(), append(full('c'), mixed(4, 'd', 'b')...))
}

// Spare room is no part of what is written.
func TestP2004SpareRoom(t *testing.T) {
	d := filled(t, "ab")
	want(t, "Write", d.Write(0, make([]byte, 511, 512)), api.ErrArg)
	want(t, "Write", d.Write(0, sectors("cd")[:512]), api.OK)
	wantBytes(t, "Image", d.Image(), sectors("cb"))
	if e := d.Write(1, sectors("ef")); e != api.ErrArg {
		t.Errorf("Write of 1024 bytes: %d", e)
	}
}

// Each number of torn bytes, at each of the writes to come.
func TestP2004Torn(t *testing.T) {
	for torn := range 513 {
		after := torn % 4
		d := filled(t, "abcde")
		d.Arm(after, torn)
		for i := range after {
			want(t, "Write", d.Write(i, uneven(i)), api.OK)
			wantOn(t, d, true)
		}
		want(t, "Write", d.Write(4, uneven(9)), api.ErrDown)
		wantOn(t, d, false)
		wanted := sectors("abcde")
		for i := range after {
			copy(wanted[i*512:], uneven(i))
		}
		copy(wanted[4*512:], uneven(9)[:torn])
		wantBytes(t, "Image", d.Image(), wanted)
		wantInt(t, "Writes", d.Writes(), after+1)
	}
}

// The sectors beside the torn one are what they were.
func TestP2004TornBeside(t *testing.T) {
	for _, torn := range []int{0, 1, 511, 512, 513} {
		d := filled(t, "abc")
		d.Arm(0, torn)
		want(t, "Write", d.Write(1, full('x')), api.ErrDown)
		d.On()
		wantRead(t, d, 0, full('a'))
		wantRead(t, d, 1, mixed(min(torn, 512), 'x', 'b'))
		wantRead(t, d, 2, full('c'))
	}
}

func TestP2007Trace(t *testing.T) {
	d := made(t, 300)
	var all []int
	for i := range 300 {
		sector := (i * 7) % 300
		want(t, "Write", d.Write(sector, full(byte(i))), api.OK)
		all = append(all, sector)
		wantTrace(t, d, i+1, all[max(0, len(all)-64):]...)
	}
}

// A torn write is one that is counted; what is refused, while the disk is off too, is none.
func TestP2007TornIsOne(t *testing.T) {
	d := made(t, 70)
	for i := range 63 {
		d.Write(i, full(1))
	}
	d.Arm(0, 0)
	d.Write(69, full(1))
	d.Write(68, full(1))
	wantInt(t, "Writes", d.Writes(), 64)
	trace := d.Trace()
	wantInt(t, "how many the trace tells", len(trace), 64)
	wantInt(t, "the last one", trace[63], 69)
	wantInt(t, "the first one", trace[0], 0)
	d.On()
	d.Write(67, full(1))
	trace = d.Trace()
	wantInt(t, "how many the trace tells", len(trace), 64)
	wantInt(t, "the last one", trace[63], 67)
	wantInt(t, "the first one", trace[0], 1)
	wantInt(t, "Writes", d.Writes(), 65)
}

// Off and On turn neither the count nor the trace, and leave the bytes as they are.
func TestP2007WhileOff(t *testing.T) {
	d := filled(t, "abc")
	d.Write(2, full('x'))
	d.Write(0, full('y'))
	d.Off()
	wantTrace(t, d, 2, 2, 0)
	wantBytes(t, "Image", d.Image(), sectors("ybx"))
	d.On()
	wantTrace(t, d, 2, 2, 0)
	wantBytes(t, "Image", d.Image(), sectors("ybx"))
}

func TestP2008Image(t *testing.T) {
	d := made(t, 4)
	wantBytes(t, "Image", d.Image(), make([]byte, 2048))
	d.Write(3, uneven(1))
	d.Write(0, uneven(2))
	d.Arm(0, 100)
	d.Write(1, uneven(3))
	wanted := append(uneven(2), uneven(3)[:100]...)
	wanted = append(wanted, make([]byte, 412+512)...)
	wanted = append(wanted, uneven(1)...)
	wantBytes(t, "Image", d.Image(), wanted)
	d.On()
	wantBytes(t, "Image", d.Image(), wanted)
}

// A disk made of an image holds the same, and begins anew otherwise.
func TestP2008FromImage(t *testing.T) {
	d := filled(t, "abc")
	d.Write(1, uneven(1))
	d.Arm(3, 3)
	for _, off := range []bool{false, true} {
		if off {
			d.Off()
		}
		other := madeFrom(t, d.Image())
		wantInt(t, "Sectors", other.Sectors(), 3)
		wantTrace(t, other, 0)
		wantOn(t, other, true)
		wantBytes(t, "Image", other.Image(), d.Image())
		for i := range 9 {
			want(t, "Write", other.Write(i%3, full(byte(i))), api.OK)
		}
		wantBytes(t, "Image", d.Image(), append(append(full('a'), uneven(1)...), full('c')...))
	}
}
