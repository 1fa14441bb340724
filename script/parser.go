package script

import (
	"strings"

	"sluice/api"
)

// place is a byte of a text, or its end.
type place struct{ line, column int }

// parser is what the lines of a text have said so far.
type parser struct {
	config api.Config
	begun  bool // the config has been read
	steps  []api.Step
}

// all reads a text; false: it is no script, and the place tells from where on. Only the byte 10 is read as the rune 10,
// whatever the other bytes are.
func (p *parser) all(text string) (place, bool) {
	line, start := 1, 0
	for i, c := range text {
		if c != '\n' {
			continue
		}
		if n, whole := p.line(text[start:i]); !whole {
			return place{line, n + 1}, false
		}
		line, start = line+1, i+1
	}
	if start == len(text) && p.begun {
		return place{}, true
	}
	// what is left lacks its line end, or the text its config
	n, _ := p.line(text[start:])
	return place{line, n + 1}, false
}

// line reads a line, its end left aside, and tells how many of its bytes a right one may begin with; false: it is none.
func (p *parser) line(line string) (int, bool) {
	if line == "" || strings.HasPrefix(line, "#") {
		return len(line), true
	}
	r := reader{line: line}
	whole := p.meaning(&r)
	return r.at, whole && r.at == len(line)
}

// meaning reads a line that means something: the first one is the config.
func (p *parser) meaning(r *reader) bool {
	if !p.begun {
		p.begun = true
		return r.config(&p.config)
	}
	var s api.Step
	whole := r.shape(&s, ofStep)
	p.steps = append(p.steps, s)
	return whole
}
