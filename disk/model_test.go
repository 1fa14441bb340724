package disk_test

import (
	"bytes"
	"math"
	"slices"
	"testing"

	"sluice/api"
	"sluice/disk"
)

// model is a disk as one list of bytes, that keeps all its writes and makes a new list at each change.
type model struct {
	image  []byte
	down   bool
	writes []int
	arms   bool
	after  int
	torn   int
	since  int // raw writes since it was armed
}

func (m *model) has(sector int) bool { return sector >= 0 && sector < len(m.image)/512 }

func (m *model) read(sector int) ([]byte, api.Errno) {
	if m.down {
		return nil, api.ErrDown
	}
	if !m.has(sector) {
		return nil, api.ErrSector
	}
	return m.image[sector*512 : (sector+1)*512], api.OK
}

func (m *model) write(sector int, b []byte) api.Errno {
	if _, e := m.read(sector); e != api.OK {
		return e
	}
	if len(b) != 512 {
		return api.ErrArg
	}
	m.writes = append(m.writes, sector)
	if m.arms && m.since == m.after {
		m.lay(sector, b[:max(0, min(512, m.torn))])
		m.down, m.arms = true, false
		return api.ErrDown
	}
	m.since++
	m.lay(sector, b)
	return api.OK
}

func (m *model) lay(sector int, b []byte) {
	at := sector * 512
	m.image = slices.Concat(m.image[:at], b, m.image[at+len(b):])
}

func (m *model) arm(after, torn int) {
	if !m.down {
		m.arms, m.after, m.torn, m.since = after >= 0, after, torn, 0
	}
}

// source tells bytes one by one, and 0 behind their end.
type source []byte

func (s *source) next() int {
	if len(*s) == 0 {
		return 0
	}
	b := (*s)[0]
	*s = (*s)[1:]
	return int(b)
}

// place tells a sector that the disk mostly has.
func (s *source) place(m *model) int { return s.next()%(len(m.image)/512+2) - 1 }

// bytes tells mostly as many as a sector has.
func (s *source) bytes() []byte {
	b := uneven(s.next())
	switch s.next() % 8 {
	case 0:
		return b[:s.next()]
	case 1:
		return append(b, b[:s.next()]...)
	}
	return b
}

func (s *source) torn() int {
	switch s.next() % 8 {
	case 0:
		return -s.next()
	case 1:
		return 512 + s.next()
	case 2:
		return math.MaxInt
	}
	return 2*s.next() + s.next()%2
}

// play plays what some bytes say at a disk and at the model, and holds all that they tell against each other.
func play(t *testing.T, script []byte) {
	s := source(script)
	n := 1 + s.next()%6
	m := &model{image: make([]byte, n*512)}
	d := made(t, n)
	if s.next()%2 == 1 {
		m.image = bytes.Repeat(s.sector(), n)
		d = madeFrom(t, m.image)
	}
	for len(s) > 0 {
		playCall(t, &s, d, m)
		wantSame(t, d, m)
		if t.Failed() {
			return
		}
	}
}

func (s *source) sector() []byte { return uneven(s.next()) }

func playCall(t *testing.T, s *source, d *disk.Disk, m *model) {
	switch s.next() % 16 {
	case 0, 1:
		after, torn := s.next()%5-1, s.torn()
		d.Arm(after, torn)
		m.arm(after, torn)
	case 2:
		d.Off()
		m.down, m.arms = true, false
	case 3, 4, 5:
		d.On()
		m.down = false
	case 6, 7:
		i := s.place(m)
		got, e := d.Read(i)
		wanted, wantedE := m.read(i)
		want(t, "Read", e, wantedE)
		wantBytes(t, "Read", got, wanted)
		clear(got)
	default:
		i, b := s.place(m), s.bytes()
		kept := bytes.Clone(b)
		want(t, "Write", d.Write(i, b), m.write(i, b))
		wantBytes(t, "what was handed in", b, kept)
		clear(b)
	}
}

func wantSame(t *testing.T, d *disk.Disk, m *model) {
	wantInt(t, "Sectors", d.Sectors(), len(m.image)/512)
	wantOn(t, d, !m.down)
	wantTrace(t, d, len(m.writes), m.writes[max(0, len(m.writes)-64):]...)
	wantBytes(t, "Image", d.Image(), m.image)
}

// Every call of the chapter, in any order.
func TestP2009Model(t *testing.T) {
	d := dice(7)
	for range 300 {
		play(t, d.bytes(600))
	}
}

// Two disks at which the same is done tell the same, whatever is done at a third one beside them.
func TestP2009Alike(t *testing.T) {
	x := dice(8)
	for range 20 {
		one, two, other := made(t, 4), made(t, 4), made(t, 4)
		for range 200 {
			seed := x.roll(1 << 30)
			do(one, seed)
			do(other, x.roll(1<<30))
			do(two, seed)
			if one.IsOn() != two.IsOn() || one.Writes() != two.Writes() ||
				!slices.Equal(one.Trace(), two.Trace()) || !bytes.Equal(one.Image(), two.Image()) {
				t.Fatal("two disks at which the same was done are not alike")
			}
		}
	}
}

func do(d *disk.Disk, seed int) {
	x := dice(seed)
	switch x.roll(8) {
	case 0:
		d.Arm(x.roll(4)-1, x.roll(520)-4)
	case 1:
		d.Off()
	case 2, 3:
		d.On()
	default:
		d.Write(x.roll(5), uneven(seed))
	}
}

func FuzzPlay(f *testing.F) {
	d := dice(9)
	for range 20 {
		f.Add(d.bytes(200))
	}
	f.Fuzz(play)
}
