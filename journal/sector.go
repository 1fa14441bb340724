package journal

import "sluice/api"

// The kinds of a sector, as the last byte of its mark tells them.
const (
	_         = iota // of a sector in which no mark stands
	kindInner        // more sectors of its record follow
	kindLast         // none do: the last byte that is written of a record
)

const (
	markSize = 8
	bodySize = api.SectorSize - 2*markSize
	tail     = markSize + bodySize // where the second mark stands

	// the places in a mark, behind the four bytes of the number
	markPlace  = 4
	markLength = 5
	markKind   = 7
)

// mark stands at both ends of a sector: one in which the power has failed has not both.
type mark [markSize]byte

// markOf tells the mark of a sector by its record's number, its place in the record, and the record's length.
func markOf(number, place, length int) mark {
	var m mark
	for i := range markPlace {
		m[i] = byte(number >> (8 * i))
	}
	m[markPlace] = byte(place)
	m[markLength], m[markLength+1] = byte(length), byte(length>>8)
	m[markKind] = kindInner
	if place == sectors(length)-1 {
		m[markKind] = kindLast
	}
	return m
}

// sectors tells how many a record of that length takes. An empty one takes one too: it must be told from none.
func sectors(length int) int { return max(1, (length+bodySize-1)/bodySize) }

// part tells those bytes of a record that stand in its sector at that place.
func part(record []byte, place int) []byte {
	return record[place*bodySize : min((place+1)*bodySize, len(record))]
}

// sector tells the bytes of one.
func sector(m mark, piece []byte) []byte {
	s := make([]byte, api.SectorSize)
	copy(s, m[:])
	copy(s[markSize:], piece)
	copy(s[tail:], m[:])
	return s
}

// body tells what stands between the marks of a sector.
func body(s []byte) []byte { return s[markSize:tail] }

// bears tells whether a sector has that mark at both ends.
func bears(s []byte, m mark) bool { return mark(s[:markSize]) == m && mark(s[tail:]) == m }

// lengthIn tells the length of a sector's record, as the first mark says it.
func lengthIn(s []byte) int { return int(s[markLength]) | int(s[markLength+1])<<8 }
