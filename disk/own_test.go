package disk_test

import (
	"testing"

	"sluice/api"
)

// roomy tells a sector's bytes with spare room behind them, and all of them, to be held against later.
func roomy(c byte) (b, all []byte) {
	all = append(full(c), full('s')...)
	return all[:512], all
}

// spoil overwrites a list's bytes, its spare room too.
func spoil(b []byte) {
	for i := range b[:cap(b)] {
		b[:cap(b)][i] = '#'
	}
}

// spoilInts does so with numbers.
func spoilInts(l []int) {
	for i := range l[:cap(l)] {
		l[:cap(l)][i] = -99
	}
}

func TestP2009FromKeepsNothing(t *testing.T) {
	all := sectors("abs")
	d := madeFrom(t, all[:1024])
	e := madeFrom(t, all[:512])
	d.Write(0, full('c'))
	d.Arm(0, 3)
	d.Write(1, full('d'))
	wantBytes(t, "what was handed in", all, sectors("abs"))
	spoil(all)
	wantBytes(t, "Image", d.Image(), append(full('c'), mixed(3, 'd', 'b')...))
	wantBytes(t, "Image", e.Image(), full('a'))
}

func TestP2009WriteKeepsNothing(t *testing.T) {
	d := filled(t, "abc")
	b, all := roomy('x')
	want(t, "Write", d.Write(0, b), api.OK)
	want(t, "Write", d.Write(2, b), api.OK)
	d.Arm(0, 100)
	want(t, "Write", d.Write(1, b), api.ErrDown)
	want(t, "Write", d.Write(1, b), api.ErrDown)
	d.On()
	want(t, "Write", d.Write(9, b), api.ErrSector)
	want(t, "Write", d.Write(1, all), api.ErrArg)
	wantBytes(t, "what was handed in", all, sectors("xs"))
	spoil(all)
	wantBytes(t, "Image", d.Image(), append(append(full('x'), mixed(100, 'x', 'b')...), full('x')...))
}

func TestP2009ReadIsNew(t *testing.T) {
	d := filled(t, "abc")
	one, _ := d.Read(1)
	two, _ := d.Read(1)
	spoil(one)
	wantBytes(t, "another Read", two, full('b'))
	wantBytes(t, "Image", d.Image(), sectors("abc"))
	d.Write(1, full('x'))
	wantBytes(t, "an earlier Read", two, full('b'))
}

func TestP2009ImageIsNew(t *testing.T) {
	d := filled(t, "abc")
	one, two := d.Image(), d.Image()
	spoil(one)
	wantBytes(t, "another Image", two, sectors("abc"))
	wantRead(t, d, 0, full('a'))
	d.Write(0, full('x'))
	wantBytes(t, "an earlier Image", two, sectors("abc"))
}

func TestP2009TraceIsNew(t *testing.T) {
	d := made(t, 80)
	for i := range 80 {
		one, two := d.Trace(), d.Trace()
		spoilInts(one)
		if len(two) > 0 {
			wantInt(t, "the last one that was told", two[len(two)-1], i-1)
		}
		wantInt(t, "how many are told", len(d.Trace()), min(i, 64))
		d.Write(i, full(1))
		trace := d.Trace()
		for k, sector := range trace {
			wantInt(t, "Trace", sector, i+1-len(trace)+k)
		}
		wantInt(t, "how many were told earlier", len(two), min(i, 64))
	}
}

func TestP2009TwoDisks(t *testing.T) {
	image := sectors("ab")
	one, two := madeFrom(t, image), madeFrom(t, image)
	one.Write(0, full('x'))
	one.Arm(0, 7)
	want(t, "Write", two.Write(1, full('y')), api.OK)
	want(t, "Write", one.Write(1, full('z')), api.ErrDown)
	wantOn(t, two, true)
	wantTrace(t, one, 2, 0, 1)
	wantTrace(t, two, 1, 1)
	wantBytes(t, "Image", one.Image(), append(full('x'), mixed(7, 'z', 'b')...))
	wantBytes(t, "Image", two.Image(), sectors("ay"))
	two.Off()
	one.On()
	wantOn(t, two, false)
	wantOn(t, one, true)
}

// What one disk answers may be handed in at another, or at itself: they have nothing in common behind it.
func TestP2009Passed(t *testing.T) {
	one := filled(t, "ab")
	image := one.Image()
	two := madeFrom(t, image)
	b, _ := one.Read(0)
	two.Write(1, b)
	one.Write(1, b)
	spoil(b)
	spoil(image)
	wantBytes(t, "Image", one.Image(), sectors("aa"))
	wantBytes(t, "Image", two.Image(), sectors("aa"))
}
