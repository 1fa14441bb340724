package script

import (
	"math"
	"strings"

	"sluice/api"
)

// reader goes over the bytes of one line. Each of its calls reads one thing, and stops behind it; false: it is not
// there, and at is the first byte that can't stand where it does. What may follow a thing is the next call's matter.
type reader struct {
	line string
	at   int
}

func (r *reader) rest() string { return r.line[r.at:] }

func (r *reader) config(c *api.Config) bool {
	for i, n := range configNumbers(c) {
		if i > 0 && !r.blank() || !r.word(configWords[i]) || !r.blank() || !r.number(n) {
			return false
		}
	}
	return true
}

// shape reads a word of a family, and what follows it.
func (r *reader) shape(s *api.Step, of family) bool {
	sh, there := r.oneOf(of)
	if !there {
		return false
	}
	*kindOf(s, of) = sh.kind
	for _, part := range sh.parts {
		if !r.blank() || !r.part(s, part) {
			return false
		}
	}
	return true
}

func (r *reader) part(s *api.Step, part rune) bool {
	switch part {
	case 'O':
		return r.shape(s, ofOp)
	case 'K':
		name, there := r.text()
		s.Op.Name = string(name)
		return there
	case 'D':
		data, there := r.text()
		s.Data = data
		return there
	}
	return r.number(numberOf(s, part))
}

// oneOf reads a word of a family.
func (r *reader) oneOf(of family) (shape, bool) {
	most := 0
	for _, sh := range shapes {
		if sh.of != of {
			continue
		}
		n := common(r.rest(), sh.word)
		if n == len(sh.word) {
			r.at += n
			return sh, true
		}
		most = max(most, n)
	}
	r.at += most
	return shape{}, false
}

func (r *reader) word(word string) bool {
	n := common(r.rest(), word)
	r.at += n
	return n == len(word)
}

func (r *reader) blank() bool { return r.word(" ") }

// common tells with how many bytes both texts begin.
func common(a, b string) int {
	n := 0
	for n < len(a) && n < len(b) && a[n] == b[n] {
		n++
	}
	return n
}

// number reads a number. It is reckoned below 0, where there is room for one more.
func (r *reader) number(to *int) bool {
	low := -math.MaxInt
	if r.word("-") {
		low = math.MinInt
		if strings.HasPrefix(r.rest(), "0") {
			return false
		}
	}
	first, n := r.at, 0
	for r.at < len(r.line) && isDigit(r.line[r.at]) {
		d := int(r.line[r.at] - '0')
		if n < (low+d)/10 { // n times 10 less d would be below low
			return false
		}
		n = n*10 - d
		r.at++
		if n == 0 { // nothing goes on behind a first 0
			break
		}
	}
	if low == -math.MaxInt {
		n = -n
	}
	*to = n
	return r.at > first
}

// text reads a text word, and tells the bytes that it means.
func (r *reader) text() ([]byte, bool) {
	if r.word("-") {
		return nil, true
	}
	var meant []byte
	for r.at < len(r.line) {
		c := r.line[r.at]
		if c != '%' && !meansItself(c) {
			break
		}
		r.at++
		if c == '%' {
			coded, there := r.coded()
			if !there {
				return nil, false
			}
			c = coded
		}
		meant = append(meant, c)
	}
	return meant, len(meant) > 0
}

// coded reads what follows a %. Every first digit has a second one with which it is right.
func (r *reader) coded() (byte, bool) {
	high, there := r.hex()
	if !there {
		return 0, false
	}
	low, there := r.hex()
	if !there {
		return 0, false
	}
	c := byte(high<<4 | low)
	if meansItself(c) {
		r.at-- // it is the second digit that can't stand there
		return 0, false
	}
	return c, true
}

func (r *reader) hex() (int, bool) {
	if r.at == len(r.line) {
		return 0, false
	}
	d := strings.IndexByte(hexDigits, r.line[r.at])
	if d < 0 {
		return 0, false
	}
	r.at++
	return d, true
}
