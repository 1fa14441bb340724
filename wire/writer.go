package wire

import (
	"sluice/api"
	"sluice/number"
)

// refusal: what a writer, or a reader, throws when it gives up.
type refusal struct{}

// writer: a hand that writes what it is handed, if that keeps to its bounds.
type writer struct{ out []byte }

// write tells the bytes that a walk through fields writes: ErrMsg, if one of these is not right.
func write(walk func(h hand)) (b []byte, e api.Errno) {
	defer func() {
		if recover() != nil {
			b, e = nil, api.ErrMsg
		}
	}()
	w := &writer{}
	walk(w)
	return w.out, api.OK
}

func (w *writer) number(n *int, low, high int) {
	if *n < low || *n > high {
		panic(refusal{})
	}
	w.put(uint64(*n))
}

func (w *writer) signed(n *int) { w.put(number.Fold(*n)) }

func (w *writer) text(s *string, _ int, above string) {
	if !goodName(*s, above) {
		panic(refusal{})
	}
	w.out = append(w.out, *s...)
}

func (w *writer) data(b *[]byte, _ int) { w.out = append(w.out, *b...) }

// put writes a number: P201.
func (w *writer) put(u uint64) { w.out = append(w.out, number.Bytes(u)...) }
