package journal_test

import (
	"bytes"
	"testing"

	"sluice/api"
)

// edges are the lengths beside which a record takes one more sector, and the least and the greatest ones.
func edges() []int {
	return []int{0, 1, 2, 255, 256, 257, 495, 496, 497, 991, 992, 993, 1488, 1489, 4096, 7935, 7936, 7937, 8191, 8192}
}

func TestP2101Layout(t *testing.T) {
	for _, n := range edges() {
		d, j := begun(t, 20)
		b := uneven(n, n)
		put(t, j, b, api.OK)
		wantBytes(t, "Image", d.Image(), laidAll(20, [][]byte{b}))
		wantInt(t, "writes", d.Writes(), needs(n))
		wantAll(t, j, 20-needs(n), [][]byte{b})
	}
}

func TestP2101SectorsAtMost(t *testing.T) {
	d, j := begun(t, 17)
	put(t, j, uneven(3, 8192), api.OK)
	wantInt(t, "Room", j.Room(), 0)
	wantInt(t, "writes", d.Writes(), 17)
}

func TestP2101OneBehindTheOther(t *testing.T) {
	records := list(edges()...)
	d, j := begun(t, needsAll(records)+3)
	putAll(t, j, records)
	wantBytes(t, "Image", d.Image(), laidAll(d.Sectors(), records))
	wantAll(t, j, 3, records)
	wantAll(t, opened(t, d), 3, records)
}

// The bytes of a mark by themselves, as the chapter's words have them.
func TestP2101Mark(t *testing.T) {
	d, j := begun(t, 40)
	put(t, j, bytes.Repeat([]byte{9}, 8192), api.OK)
	for place := range 17 {
		kind := byte(1)
		if place == 16 {
			kind = 2
		}
		s, _ := d.Read(place)
		mark := []byte{1, 0, 0, 0, byte(place), 0, 32, kind}
		wantBytes(t, "the first mark", s[:8], mark)
		wantBytes(t, "the second mark", s[504:], mark)
	}
}

// Numbers of more than one byte, up to the greatest that a disk has room for.
func TestP2101Numbers(t *testing.T) {
	d, j := begun(t, api.MaxSectors)
	for range api.MaxSectors {
		if e := j.Append(nil); e != api.OK {
			t.Fatalf("Append: %d", e)
		}
	}
	put(t, j, nil, api.ErrSpace)
	for sector, mark := range map[int][]byte{
		0:     {1, 0, 0, 0, 0, 0, 0, 2},
		254:   {255, 0, 0, 0, 0, 0, 0, 2},
		255:   {0, 1, 0, 0, 0, 0, 0, 2},
		256:   {1, 1, 0, 0, 0, 0, 0, 2},
		65534: {255, 255, 0, 0, 0, 0, 0, 2},
		65535: {0, 0, 1, 0, 0, 0, 0, 2},
	} {
		s, _ := d.Read(sector)
		wantBytes(t, "the first mark", s[:8], mark)
		wantBytes(t, "the second mark", s[504:], mark)
	}
	k := opened(t, d)
	wantInt(t, "Len", k.Len(), api.MaxSectors)
	wantInt(t, "Room", k.Room(), 0)
}

// What fills a last sector is zeros, whatever stood there.
func TestP2101Fill(t *testing.T) {
	d := madeFrom(t, bytes.Repeat([]byte{'x'}, 3*512))
	put(t, opened(t, d), uneven(1, 500), api.OK)
	want := append(laid(1, uneven(1, 500)), bytes.Repeat([]byte{'x'}, 512)...)
	wantBytes(t, "Image", d.Image(), want)
}

func TestP2102Empty(t *testing.T) {
	for _, n := range []int{1, 2, 17, 40} {
		_, j := begun(t, n)
		wantAll(t, j, n, nil)
	}
	for _, c := range []byte{1, 2, 'x', 255} {
		wantAll(t, opened(t, madeFrom(t, bytes.Repeat([]byte{c}, 4*512))), 4, nil)
	}
}

// Every bit of every byte of a record's sectors: those of the marks must be as they are, the others are not looked at.
func TestP2102EveryBit(t *testing.T) {
	records := list(10, 992, 600, 1)
	image := laidAll(8, records)
	starts := []int{0, 1, 3, 5}
	for at := range 6 * 512 {
		for bit := range 8 {
			b := bytes.Clone(image)
			b[at] ^= 1 << bit
			if in := at % 512; in >= 8 && in < 504 {
				wantInt(t, "Len", opened(t, madeFrom(t, b)).Len(), 4)
				continue
			}
			whose := 3
			for starts[whose] > at/512 {
				whose--
			}
			j := opened(t, madeFrom(t, b))
			wantInt(t, "Len", j.Len(), whose)
			wantInt(t, "Room", j.Room(), 8-starts[whose])
		}
	}
}

// What fills a last sector is not looked at; nor what stands behind the last record.
func TestP2102NotLookedAt(t *testing.T) {
	records := list(10, 500)
	image := laidAll(5, records)
	copy(image[8+10:504], bytes.Repeat([]byte{'f'}, 496))
	copy(image[2*512+8+4:], bytes.Repeat([]byte{2}, 300))
	copy(image[3*512:], bytes.Repeat([]byte{'g'}, 1024))
	wantAll(t, opened(t, madeFrom(t, image)), 2, records)
}

// marked tells a sector with these marks, and an even body.
func marked(first, second []byte) []byte {
	s := append(bytes.Clone(first), bytes.Repeat([]byte{'b'}, 496)...)
	return append(s, second...)
}

func both(number, place, n, kind int) []byte {
	m := label(number, place, n, kind)
	return marked(m, m)
}

// Marks that are the same at both ends, but not those that they must be.
func TestP2102WrongMarks(t *testing.T) {
	good := both(1, 0, 5, 2)
	for what, sectors := range map[string][][]byte{
		"number 0":                 {both(0, 0, 5, 2)},
		"number 2":                 {both(2, 0, 5, 2)},
		"number 257":               {both(257, 0, 5, 2)},
		"number 1 << 24 and 1":     {both(1<<24+1, 0, 5, 2)},
		"place 1":                  {both(1, 1, 5, 2)},
		"kind 0":                   {both(1, 0, 5, 0)},
		"kind 1":                   {both(1, 0, 5, 1)},
		"kind 3":                   {both(1, 0, 5, 3)},
		"kind 2 of two sectors":    {both(1, 0, 497, 2), both(1, 1, 497, 2)},
		"kind 1 at the end":        {both(1, 0, 497, 1), both(1, 1, 497, 1)},
		"another n":                {both(1, 0, 497, 1), both(1, 1, 498, 2)},
		"another number":           {both(1, 0, 497, 1), both(2, 1, 497, 2)},
		"the same place":           {both(1, 0, 497, 1), both(1, 0, 497, 2)},
		"a place left out":         {both(1, 0, 497, 1), both(1, 2, 497, 2)},
		"the other way round":      {both(1, 1, 497, 2), both(1, 0, 497, 1)},
		"a record in the midst":    {both(1, 0, 497, 1), good, both(1, 1, 497, 2)},
		"another n at the end":     {marked(label(1, 0, 5, 2), label(1, 0, 6, 2))},
		"zeros at the end":         {marked(label(1, 0, 5, 2), make([]byte, 8))},
		"zeros at the beginning":   {marked(make([]byte, 8), label(1, 0, 5, 2))},
		"a good one behind a hole": {make([]byte, 512), good},
		"n of one sector, in two":  {both(1, 0, 496, 1), both(1, 1, 496, 2)},
	} {
		image := append(bytes.Join(sectors, nil), make([]byte, 512)...)
		j := opened(t, madeFrom(t, image))
		if j.Len() != 0 || j.Room() != len(image)/512 {
			t.Errorf("%s: Len %d, Room %d", what, j.Len(), j.Room())
		}
	}
	wantInt(t, "Len", opened(t, madeFrom(t, good)).Len(), 1)
}

// n at most MaxRecord, where all marks are as if more were good.
func TestP2102TooLong(t *testing.T) {
	for _, n := range []int{8192, 8193, 8432, 8433, 16384, 65535} {
		var image []byte
		count := needs(n)
		for place := range count {
			kind := 1
			if place == count-1 {
				kind = 2
			}
			image = append(image, both(1, place, n, kind)...)
		}
		wanted := 0
		if n == 8192 {
			wanted = 1
		}
		wantInt(t, "Len", opened(t, madeFrom(t, image)).Len(), wanted)
	}
}

// The disk ends in the midst of a record.
func TestP2102TooFewSectors(t *testing.T) {
	for _, n := range []int{497, 992, 993, 8192} {
		first, whole := laid(1, uneven(2, 9)), laid(2, uneven(1, n))
		for count := range needs(n) {
			image := append(bytes.Clone(first), whole[:count*512]...)
			wantAll(t, opened(t, madeFrom(t, image)), count, [][]byte{uneven(2, 9)})
		}
		wantAll(t, opened(t, madeFrom(t, append(first, whole...))), 0, [][]byte{uneven(2, 9), uneven(1, n)})
	}
}

// Behind one that does not stand none does, though its own sectors are as they must be.
func TestP2102UpToTheFirst(t *testing.T) {
	records := list(1, 2, 3, 4)
	for i := range records {
		image := laidAll(6, records)
		image[i*512+511] = 1
		wantAll(t, opened(t, madeFrom(t, image)), 6-i, records[:i])
	}
}

// The first record is numbered 1, wherever numbers of another journal begin.
func TestP2102OtherBeginning(t *testing.T) {
	image := append(laid(2, uneven(1, 5)), laid(3, uneven(2, 5))...)
	wantAll(t, opened(t, madeFrom(t, image)), 2, nil)
}
