package disk_test

import (
	"math"
	"testing"

	"sluice/api"
	"sluice/disk"
)

// failing tells how many writes a disk does whole ahead of the one in which its power fails; -1: none of the next 200.
func failing(t *testing.T, d *disk.Disk) int {
	t.Helper()
	for i := range 200 {
		if e := d.Write(0, full(byte(i))); e == api.ErrDown {
			wantOn(t, d, false)
			return i
		}
	}
	wantOn(t, d, true)
	return -1
}

func TestP2005After(t *testing.T) {
	for _, after := range []int{0, 1, 2, 63, 64, 65, 199} {
		d := made(t, 1)
		d.Arm(after, 9)
		wantInt(t, "writes that are done whole", failing(t, d), after)
	}
	for _, after := range []int{200, 1 << 40, math.MaxInt, -1, -2, math.MinInt} {
		d := made(t, 1)
		d.Arm(after, 9)
		wantInt(t, "writes that are done whole", failing(t, d), -1)
	}
}

// Writes ahead of Arm do not count.
func TestP2005SinceArm(t *testing.T) {
	d := made(t, 1)
	for range 5 {
		d.Write(0, full(1))
	}
	d.Arm(3, 9)
	wantInt(t, "writes that are done whole", failing(t, d), 3)
}

func TestP2005Bytes(t *testing.T) {
	for torn, bytes := range map[int]int{
		math.MinInt: 0, -512: 0, -1: 0, 0: 0, 1: 1, 256: 256, 511: 511, 512: 512, 513: 512, 1024: 512, math.MaxInt: 512,
	} {
		d := filled(t, "abc")
		d.Arm(0, torn)
		want(t, "Write", d.Write(1, full('x')), api.ErrDown)
		wantBytes(t, "Image", d.Image(), append(append(full('a'), mixed(bytes, 'x', 'b')...), full('c')...))
	}
}

// The last Arm counts, whole: neither its writes nor its bytes are those of an earlier one.
func TestP2005Again(t *testing.T) {
	d := filled(t, "a")
	d.Arm(2, 7)
	d.Write(0, full('b'))
	d.Arm(2, 9)
	d.Write(0, full('c'))
	d.Write(0, full('d'))
	wantOn(t, d, true)
	want(t, "Write", d.Write(0, full('e')), api.ErrDown)
	wantBytes(t, "Image", d.Image(), mixed(9, 'e', 'd'))

	d.On()
	d.Arm(5, 9)
	d.Arm(1, 3)
	wantInt(t, "writes that are done whole", failing(t, d), 1)

	d.On()
	d.Arm(1, 9)
	d.Arm(4, 3)
	wantInt(t, "writes that are done whole", failing(t, d), 4)

	for _, after := range []int{-1, -9, math.MinInt} {
		d.On()
		d.Arm(1, 9)
		d.Write(0, full('f'))
		d.Arm(after, 512)
		wantInt(t, "writes that are done whole", failing(t, d), -1)
	}
}

// On a disk that is off Arm does nothing, whatever it asks for.
func TestP2005WhileOff(t *testing.T) {
	d := filled(t, "a")
	for _, after := range []int{0, 1, -1, 5} {
		d.Off()
		d.Arm(after, 9)
		wantOn(t, d, false)
		want(t, "Write", d.Write(0, full('x')), api.ErrDown)
		d.On()
		wantBytes(t, "Image", d.Image(), full('a'))
		for range 10 {
			want(t, "Write", d.Write(0, full('a')), api.OK)
		}
	}
}

// The power fails once: given back, it stays.
func TestP2004NotArmedAnyMore(t *testing.T) {
	for _, after := range []int{0, 1, 3} {
		d := made(t, 1)
		d.Arm(after, 5)
		wantInt(t, "writes that are done whole", failing(t, d), after)
		d.On()
		wantOn(t, d, true)
		wantInt(t, "writes that are done whole", failing(t, d), -1)
	}
}

func TestP2006OffAndOn(t *testing.T) {
	d := filled(t, "ab")
	wantOn(t, d, true)
	d.Off()
	wantOn(t, d, false)
	d.Off()
	wantOn(t, d, false)
	want(t, "Write", d.Write(0, full('x')), api.ErrDown)
	d.On()
	wantOn(t, d, true)
	d.On()
	wantOn(t, d, true)
	wantRead(t, d, 0, full('a'))
	wantRead(t, d, 1, full('b'))
	wantTrace(t, d, 0)
	want(t, "Write", d.Write(0, full('x')), api.OK)
}

func TestP2006OffForgets(t *testing.T) {
	d := made(t, 1)
	d.Arm(2, 5)
	d.Write(0, full(1))
	d.Off()
	d.On()
	wantInt(t, "writes that are done whole", failing(t, d), -1)
}

// On, of a disk that is on, turns nothing: neither what is armed, nor how many writes have been done since.
func TestP2006OnKeeps(t *testing.T) {
	d := filled(t, "a")
	d.Arm(2, 5)
	d.On()
	want(t, "Write", d.Write(0, full('b')), api.OK)
	d.On()
	want(t, "Write", d.Write(0, full('c')), api.OK)
	d.On()
	want(t, "Write", d.Write(0, full('d')), api.ErrDown)
	wantBytes(t, "Image", d.Image(), mixed(5, 'd', 'c'))
}
