package link_test

import (
	"bytes"
	"fmt"
	"slices"
	"strings"
	"testing"

	"sluice/api"
	"sluice/link"
)

// dice: numbers that hang on its beginning alone.
type dice uint64

func (d *dice) roll(n int) int {
	*d = *d*6364136223846793005 + 1442695040888963407
	return int(uint64(*d) >> 33 % uint64(n))
}

func (d *dice) bytes(n int) []byte {
	b := make([]byte, n)
	for i := range b {
		b[i] = byte(d.roll(256))
	}
	return b
}

// made tells the end of replica 3 towards 5.
func made(t *testing.T, window, resend int) *link.Link {
	t.Helper()
	return madeAt(t, 3, 5, window, resend)
}

func madeAt(t *testing.T, me, peer, window, resend int) *link.Link {
	t.Helper()
	l, e := link.New(me, peer, window, resend)
	if e != api.OK || l == nil {
		t.Fatalf("New(%d, %d, %d, %d): %v, %d", me, peer, window, resend, l, e)
	}
	return l
}

// came is a segment as it comes to the end that made tells.
func came(seq, ack int, data string) api.Segment {
	return api.Segment{From: 5, To: 3, Seq: seq, Ack: ack, Data: []byte(data)}
}

// goes is a segment as it goes from the end that made tells.
func goes(seq, ack int, data string) api.Segment {
	return api.Segment{From: 3, To: 5, Seq: seq, Ack: ack, Data: []byte(data)}
}

func send(t *testing.T, l *link.Link, texts ...string) {
	t.Helper()
	for _, s := range texts {
		if e := l.Send([]byte(s)); e != api.OK {
			t.Fatalf("Send(%q): %d", s, e)
		}
	}
}

func ticks(l *link.Link, n int) {
	for range n {
		l.Tick()
	}
}

func sameSegment(a, b api.Segment) bool {
	return a.From == b.From && a.To == b.To && a.Seq == b.Seq && a.Ack == b.Ack && bytes.Equal(a.Data, b.Data)
}

func sameSegments(a, b []api.Segment) bool { return slices.EqualFunc(a, b, sameSegment) }

func sameLists(a, b [][]byte) bool { return slices.EqualFunc(a, b, bytes.Equal) }

// told writes segments so that two that differ are told apart.
func told(list []api.Segment) string {
	var out []string
	for _, s := range list {
		data := fmt.Sprintf("%q", s.Data)
		if len(s.Data) > 20 {
			data = fmt.Sprintf("%d bytes", len(s.Data))
		}
		out = append(out, fmt.Sprintf("%d>%d %d/%d %s", s.From, s.To, s.Seq, s.Ack, data))
	}
	return "[" + strings.Join(out, ", ") + "]"
}

func wantOut(t *testing.T, l *link.Link, want ...api.Segment) {
	t.Helper()
	if got := l.Out(); !sameSegments(got, want) {
		t.Errorf("Out tells %s, want %s", told(got), told(want))
	}
}

func wantUnder(t *testing.T, l *link.Link, want ...api.Segment) {
	t.Helper()
	if got := l.Under(); !sameSegments(got, want) {
		t.Errorf("Under tells %s, want %s", told(got), told(want))
	}
}

func wantUp(t *testing.T, l *link.Link, s api.Segment, want ...string) {
	t.Helper()
	got, e := l.Take(s)
	lists := make([][]byte, len(want))
	for i, w := range want {
		lists[i] = []byte(w)
	}
	if e != api.OK || !sameLists(got, lists) {
		t.Errorf("Take(%s) = %q, %d, want %q", told([]api.Segment{s}), got, e, want)
	}
}

func wantNext(t *testing.T, l *link.Link, want int) {
	t.Helper()
	if got := l.Next(); got != want {
		t.Errorf("Next tells %d, want %d", got, want)
	}
}

func wantRoom(t *testing.T, l *link.Link, want int) {
	t.Helper()
	if got := l.Room(); got != want {
		t.Errorf("Room tells %d, want %d", got, want)
	}
}
