package wire

import (
	"bytes"

	"sluice/api"
	"sluice/number"
)

// reader: a hand that fills in what it reads. It gives up with at as the place to be told.
type reader struct {
	in []byte
	at int
}

// read lets a walk through fields read all the bytes: ErrWire and a place, if they are not what it asks for.
func read(b []byte, walk func(h hand)) (at int, e api.Errno) {
	r := &reader{in: b}
	defer func() {
		if recover() != nil {
			at, e = r.at, api.ErrWire
		}
	}()
	walk(r)
	if r.at < len(b) {
		r.giveUp(r.at)
	}
	return 0, api.OK
}

func (r *reader) giveUp(at int) {
	r.at = at
	panic(refusal{})
}

func (r *reader) number(n *int, low, high int) {
	start := r.at
	u := r.get()
	if u < uint64(low) || u > uint64(high) {
		r.giveUp(start)
	}
	*n = int(u)
}

func (r *reader) signed(n *int) { *n = number.Unfold(r.get()) }

func (r *reader) text(s *string, length int, above string) {
	start := r.at
	*s = string(r.take(length))
	if !goodName(*s, above) {
		r.giveUp(start)
	}
}

func (r *reader) data(b *[]byte, length int) { *b = bytes.Clone(r.take(length)) }

// take cuts out the next bytes: they are the caller's bytes still.
func (r *reader) take(length int) []byte {
	if length > len(r.in)-r.at {
		r.giveUp(len(r.in))
	}
	b := r.in[r.at : r.at+length]
	r.at += length
	return b
}

// get reads a number: P201, and how P208 looks at it.
func (r *reader) get() uint64 {
	u, at, e := number.Read(r.in[r.at:])
	if e != api.OK {
		r.giveUp(r.at + at)
	}
	r.at += at
	return u
}
