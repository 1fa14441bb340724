package journal_test

import (
	"bytes"
	"testing"

	"sluice/api"
	"sluice/disk"
	"sluice/journal"
)

// model is a journal that knows nothing but the bytes of its disk, when it was opened, and what was appended since.
type model struct {
	records [][]byte
	room    int
	dead    bool
}

// found tells what a disk has: at each place the one record that its first mark speaks of is laid down anew and held
// against what is there, but for its body.
func found(image []byte) *model {
	m := &model{room: len(image) / 512}
	for {
		rest := image[len(image)-m.room*512:]
		if len(rest) == 0 {
			return m
		}
		n := int(rest[5]) + 256*int(rest[6])
		if n > 8192 || needs(n) > m.room {
			return m
		}
		var b []byte
		for place := range needs(n) {
			b = append(b, rest[place*512+8:place*512+504]...)
		}
		whole := laid(len(m.records)+1, b[:n])
		if !sameMarks(rest, whole) {
			return m
		}
		m.records = append(m.records, b[:n])
		m.room -= needs(n)
	}
}

func sameMarks(image, whole []byte) bool {
	for at := 0; at < len(whole); at += 512 {
		if !bytes.Equal(image[at:at+8], whole[at:at+8]) || !bytes.Equal(image[at+504:at+512], whole[at+504:at+512]) {
			return false
		}
	}
	return true
}

// appended tells what an Append must answer, and what the disk has behind it: image is what it had, writes is how many
// raw writes the power lasts (below 0: all), torn how much of the next one.
func (m *model) appended(d *disk.Disk, image, b []byte, writes, torn int) (api.Errno, []byte) {
	switch {
	case m.dead || !d.IsOn():
		m.dead = true
		return api.ErrDown, image
	case len(b) > 8192:
		return api.ErrLong, image
	case needs(len(b)) > m.room:
		return api.ErrSpace, image
	}
	whole := laid(len(m.records)+1, b)
	at := len(image) - m.room*512
	if writes >= 0 && writes < needs(len(b)) {
		m.dead = true
		copy(image[at:], whole[:writes*512+torn])
		return api.ErrDown, image
	}
	copy(image[at:], whole)
	m.records = append(m.records, bytes.Clone(b))
	m.room -= needs(len(b))
	return api.OK, image
}

// source tells bytes one by one, and 0 behind their end.
type source []byte

func (s *source) next() int {
	if len(*s) == 0 {
		return 0
	}
	b := (*s)[0]
	*s = (*s)[1:]
	return int(b)
}

func (s *source) record() []byte {
	seed := s.next()
	switch s.next() % 8 {
	case 0:
		return uneven(seed, 8000+s.next())
	case 1, 2, 3:
		return uneven(seed, 10*s.next())
	case 4:
		return uneven(seed, 496*(s.next()%5)+s.next()%3)
	}
	return uneven(seed, s.next())
}

// image tells a disk's bytes: zeros, or records of which some bits are turned.
func (s *source) image() []byte {
	sectors := 1 + s.next()%30
	image := make([]byte, sectors*512)
	if s.next()%2 == 0 {
		return image
	}
	var all []byte
	for i := range s.next() % 6 {
		all = append(all, laid(i+1, s.record())...)
	}
	copy(image, all)
	for range s.next() % 4 {
		at := s.next() % sectors * 512
		at += []int{s.next() % 8, 504 + s.next()%8, s.next() * 2}[s.next()%3]
		image[at] ^= 1 << (s.next() % 8)
	}
	return image
}

// play plays what some bytes say at a journal and at the model, and holds all that they tell against each other.
func play(t *testing.T, script []byte) {
	s := source(script)
	image := s.image()
	d := madeFrom(t, image)
	j, m := opened(t, d), found(image)
	for len(s) > 0 {
		switch s.next() % 8 {
		case 0:
			d.Off()
		case 1, 2:
			d.On()
		case 3:
			d.On()
			j, m = opened(t, d), found(image)
		default:
			image = playAppend(t, &s, d, j, m, image)
		}
		wantSame(t, j, m)
		wantBytes(t, "Image", d.Image(), image)
		if t.Failed() {
			return
		}
	}
}

func playAppend(t *testing.T, s *source, d *disk.Disk, j *journal.Journal, m *model, image []byte) []byte {
	b, writes, torn := s.record(), s.next()%8-4, 2*s.next()+s.next()%3
	d.Arm(writes, torn)
	kept := bytes.Clone(b)
	wanted, after := m.appended(d, image, b, writes, torn)
	put(t, j, b, wanted)
	wantBytes(t, "what was handed in", b, kept)
	spoil(b)
	d.Arm(-1, 0)
	return after
}

func wantSame(t *testing.T, j *journal.Journal, m *model) {
	t.Helper()
	if m.dead {
		wantDead(t, j)
		return
	}
	wantAll(t, j, m.room, m.records)
}

// Every call of the chapter, in any order.
func TestP2107Model(t *testing.T) {
	x := dice(7)
	for range 600 {
		play(t, x.bytes(300))
	}
}

func FuzzPlay(f *testing.F) {
	x := dice(9)
	for range 20 {
		f.Add(x.bytes(200))
	}
	f.Fuzz(play)
}
