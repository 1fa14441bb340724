package script

import (
	"strconv"

	"sluice/api"
)

const hexDigits = "0123456789ABCDEF"

func isDigit(c byte) bool { return c >= '0' && c <= '9' }

// meansItself tells of a byte whether it stands in a text word as it is.
func meansItself(c byte) bool {
	return isDigit(c) || c >= 'a' && c <= 'z' || c >= 'A' && c <= 'Z' || c == '_' || c == '.'
}

// page is a text that grows word by word.
type page struct {
	text  []byte
	begun bool // the last line has a word
}

// part parts two words of a line.
func (p *page) part() {
	if p.begun {
		p.text = append(p.text, ' ')
	}
	p.begun = true
}

func (p *page) end() {
	p.text = append(p.text, '\n')
	p.begun = false
}

func (p *page) word(word string) {
	p.part()
	p.text = append(p.text, word...)
}

func (p *page) numbers(list ...int) {
	for _, n := range list {
		p.part()
		p.text = strconv.AppendInt(p.text, int64(n), 10)
	}
}

func (p *page) epoch(e api.Epoch) {
	p.numbers(e.Round)
	p.text = append(p.text, ':')
	p.text = strconv.AppendInt(p.text, int64(e.Rank), 10)
}

func (p *page) name(name string) { p.data([]byte(name)) }

// data tells bytes as a text word.
func (p *page) data(data []byte) {
	p.part()
	if len(data) == 0 {
		p.text = append(p.text, '-')
	}
	for _, c := range data {
		p.sign(c)
	}
}

func (p *page) sign(c byte) {
	if meansItself(c) {
		p.text = append(p.text, c)
		return
	}
	p.text = append(p.text, '%', hexDigits[c>>4], hexDigits[c&15])
}

func (p *page) config(c api.Config) {
	for i, n := range configNumbers(&c) {
		p.word(configWords[i])
		p.numbers(*n)
	}
	p.end()
}

// step tells the line of a step that isTold.
func (p *page) step(s api.Step) {
	p.shape(&s, ofStep)
	p.end()
}

func (p *page) shape(s *api.Step, of family) {
	sh, _ := shapeOf(of, *kindOf(s, of))
	p.word(sh.word)
	for _, part := range sh.parts {
		switch part {
		case 'O':
			p.shape(s, ofOp)
		case 'K':
			p.name(s.Op.Name)
		case 'D':
			p.data(s.Data)
		default:
			p.numbers(*numberOf(s, part))
		}
	}
}
