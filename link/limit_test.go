package link

import (
	"testing"

	"sluice/api"
)

// aged is an end as it is behind 2^40 - 1 - left numbers each way: no test gets there by calls.
func aged(t *testing.T, left int) *Link {
	t.Helper()
	l, e := New(0, 1, 4, 1)
	if e != api.OK {
		t.Fatal(e)
	}
	l.acked = api.MaxSeq - left
	l.next = api.MaxSeq - left + 1
	return l
}

func TestP302LastNumber(t *testing.T) {
	for left := range 4 {
		l := aged(t, left)
		for range left {
			if e := l.Send(nil); e != api.OK {
				t.Errorf("%d numbers are left: %d", left, e)
			}
		}
		for range 3 {
			if e := l.Send(nil); e != api.ErrFull {
				t.Errorf("MaxSeq has been handed in: %d", e)
			}
			if e := l.Send(make([]byte, 4001)); e != api.ErrLong {
				t.Errorf("too long: %d", e)
			}
			out := l.Out()
			if n := len(out); n > 0 && out[n-1].Seq != api.MaxSeq {
				t.Errorf("the last number is %d", out[n-1].Seq)
			}
		}
		if got := l.Room(); got != 4-left {
			t.Errorf("Room tells %d, want %d", got, 4-left)
		}
	}
}

func TestP306LastNumber(t *testing.T) {
	l := aged(t, 2)
	if up, e := l.Take(api.Segment{From: 1, Seq: api.MaxSeq, Data: []byte("b")}); len(up) != 0 || e != api.OK {
		t.Errorf("%q, %d", up, e)
	}
	if up, e := l.Take(api.Segment{From: 1, Seq: api.MaxSeq - 1, Data: []byte("a")}); len(up) != 2 || e != api.OK {
		t.Errorf("%q, %d", up, e)
	}
	if _, e := l.Take(api.Segment{From: 1, Seq: api.MaxSeq + 1}); e != api.ErrLink {
		t.Errorf("above MaxSeq: %d", e)
	}
	if up, e := l.Take(api.Segment{From: 1, Seq: api.MaxSeq, Ack: api.MaxSeq - 2}); len(up) != 0 || e != api.OK {
		t.Errorf("%q, %d", up, e)
	}
	out := l.Out()
	if len(out) != 1 || out[0].Ack != api.MaxSeq {
		t.Errorf("Out tells %v", out)
	}
}

// What is no longer needed is not kept: neither what was acknowledged nor what was handed up.
func TestP306NothingKept(t *testing.T) {
	l, _ := New(0, 1, 4, 1)
	for range 3 {
		l.Send([]byte("x"))
	}
	l.Out()
	l.Take(api.Segment{From: 1, Seq: 2, Ack: 2, Data: []byte("b")})
	l.Take(api.Segment{From: 1, Seq: 9, Ack: 2, Data: []byte("far")})
	if len(l.early) != 1 || len(l.under) != 1 {
		t.Errorf("%d wait, %d are under way", len(l.early), len(l.under))
	}
	l.Take(api.Segment{From: 1, Seq: 1, Ack: 3, Data: []byte("a")})
	l.Take(api.Segment{From: 1, Seq: 1, Ack: 3, Data: []byte("old")})
	if len(l.early) != 0 {
		t.Errorf("%d wait", len(l.early))
	}
	for _, data := range l.under[:cap(l.under)] {
		if data != nil {
			t.Error("what was acknowledged is kept")
		}
	}
}
