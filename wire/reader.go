package wire

import (
	"bytes"

	"sluice/api"
)

const maxBytes = 10 // of a number

// reader: a hand that fills in what it reads. It gives up with at as the place to be told.
type reader struct {
	in []byte
	at int
}

// read lets a walk through fields read all the bytes: ErrWire and a place, if they are not what it asks for.
func read(b []byte, walk func(h hand)) (at int, e api.Errno) {
	r := &reader{in: b}
	defer func() {
		if recover() != nil {
			at, e = r.at, api.ErrWire
		}
	}()
	walk(r)
	if r.at < len(b) {
		r.giveUp(r.at)
	}
	return 0, api.OK
}

func (r *reader) giveUp(at int) {
	r.at = at
	panic(refusal{})
}

func (r *reader) number(n *int, low, high int) {
	start := r.at
	u := r.get()
	if u < uint64(low) || u > uint64(high) {
		r.giveUp(start)
	}
	*n = int(u)
}

func (r *reader) signed(n *int) {
	u := r.get()
	*n = int(u>>1) ^ -int(u&1)
}

func (r *reader) text(s *string, length int, above string) {
	start := r.at
	*s = string(r.take(length))
	if !goodName(*s, above) {
		r.giveUp(start)
	}
}

func (r *reader) data(b *[]byte, length int) { *b = bytes.Clone(r.take(length)) }

// take cuts out the next bytes: they are the caller's bytes still.
func (r *reader) take(length int) []byte {
	if length > len(r.in)-r.at {
		r.giveUp(len(r.in))
	}
	b := r.in[r.at : r.at+length]
	r.at += length
	return b
}

// get reads a number: P201, and how P208 looks at it.
func (r *reader) get() uint64 {
	start := r.at
	u, n, last := uint64(0), 0, byte(128)
	for last >= 128 && n < maxBytes {
		last = r.take(1)[0]
		u |= uint64(last&127) << (7 * n)
		n++
	}
	if n > 1 && last == 0 || n == maxBytes && last != 1 {
		r.giveUp(start)
	}
	return u
}
