package link_test

import (
	"math"
	"strings"
	"testing"

	"sluice/api"
	"sluice/link"
)

// busy tells an end with something of everything: 1 acknowledged, 2 and 3 under way, "d" in the box, 2 awaited, 4 waits.
func busy(t *testing.T) *link.Link {
	t.Helper()
	l := made(t, 4, 3)
	send(t, l, "a", "b", "c")
	l.Out()
	ticks(l, 2)
	wantUp(t, l, came(1, 1, "x"), "x")
	wantUp(t, l, came(4, 1, "z"))
	l.Out()
	send(t, l, "d")
	return l
}

// wantBusy: nothing has changed since busy.
func wantBusy(t *testing.T, l *link.Link) {
	t.Helper()
	wantNext(t, l, 2)
	wantRoom(t, l, 1)
	wantUnder(t, l, goes(2, 1, "b"), goes(3, 1, "c"))
	wantOut(t, l, goes(4, 1, "d"))
	l.Tick()
	wantOut(t, l, goes(2, 1, "b"), goes(3, 1, "c"), goes(4, 1, "d"))
	wantUp(t, l, came(3, 0, "y"))
	wantUp(t, l, came(2, 0, "w"), "w", "y", "z")
}

func TestP306Refused(t *testing.T) {
	wantBusy(t, busy(t))
	for what, s := range map[string]api.Segment{
		"from another":           {From: 4, To: 3, Seq: 2, Ack: 3},
		"from itself":            {From: 3, To: 3, Seq: 2, Ack: 3},
		"to another":             {From: 5, To: 4, Seq: 2, Ack: 3},
		"back to its sender":     {From: 5, To: 5, Seq: 2, Ack: 3},
		"its own":                {From: 3, To: 5, Seq: 2, Ack: 3},
		"from nowhere":           {From: -1, To: 3, Seq: 2, Ack: 3},
		"from the least":         {From: math.MinInt, To: 3, Seq: 2, Ack: 3},
		"to the greatest":        {From: 5, To: math.MaxInt, Seq: 2, Ack: 3},
		"Seq -1":                 came(-1, 3, ""),
		"Seq -1 with data":       came(-1, 3, "y"),
		"the least Seq":          came(math.MinInt, 3, "y"),
		"Seq above MaxSeq":       came(api.MaxSeq+1, 3, "y"),
		"the greatest Seq":       came(math.MaxInt, 3, "y"),
		"Ack -1":                 came(2, -1, "y"),
		"the least Ack":          came(2, math.MinInt, "y"),
		"Ack in the box":         came(2, 4, "y"),
		"Ack behind the box":     came(2, 5, "y"),
		"the greatest Ack":       came(2, math.MaxInt, "y"),
		"Seq 0 and Ack too high": came(0, 4, ""),
		"Seq 0 with data":        came(0, 3, "y"),
		"4,001 bytes":            came(2, 3, strings.Repeat("y", 4001)),
		"Seq 0, 4,001 bytes":     came(0, 3, strings.Repeat("y", 4001)),
		"old, 4,001 bytes":       came(1, 3, strings.Repeat("y", 4001)),
	} {
		l := busy(t)
		for range 2 {
			if up, e := l.Take(s); e != api.ErrLink || len(up) != 0 {
				t.Errorf("%s: %q, %d", what, up, e)
			}
		}
		wantBusy(t, l)
		if t.Failed() {
			t.Fatal(what)
		}
	}
}

func TestP306Bounds(t *testing.T) {
	l := busy(t)
	wantUp(t, l, came(api.MaxSeq, 3, "far"))
	wantNext(t, l, 2)
	wantUnder(t, l)
	wantOut(t, l, goes(0, 1, ""), goes(4, 1, "d"))
	full := strings.Repeat("y", 4000)
	wantUp(t, l, came(2, 4, full), full)
	wantUp(t, l, api.Segment{From: 5, To: 3, Seq: 3}, "", "z")
	wantUnder(t, l)
}

// A segment without bytes and with a number is handed up like others.
func TestP306NoBytes(t *testing.T) {
	l := made(t, 3, 1)
	wantUp(t, l, came(2, 0, ""))
	wantUp(t, l, came(2, 0, ""))
	wantUp(t, l, came(1, 0, ""), "", "")
	wantNext(t, l, 3)
}

func TestP306Acknowledged(t *testing.T) {
	l := made(t, 4, 1)
	send(t, l, "a", "b", "c")
	wantUp(t, l, came(0, 0, ""))
	if _, e := l.Take(came(0, 1, "")); e != api.ErrLink {
		t.Errorf("in the box alone: %d", e)
	}
	l.Out()
	wantUp(t, l, came(0, 0, ""))
	wantUnder(t, l, goes(1, 0, "a"), goes(2, 0, "b"), goes(3, 0, "c"))
	wantUp(t, l, came(0, 2, ""))
	wantUnder(t, l, goes(3, 0, "c"))
	wantUp(t, l, came(0, 1, ""))
	wantUp(t, l, came(0, 2, ""))
	wantUnder(t, l, goes(3, 0, "c"))
	wantOut(t, l)
	wantUp(t, l, came(0, 3, ""))
	wantUnder(t, l)
	if _, e := l.Take(came(0, 4, "")); e != api.ErrLink {
		t.Errorf("4 has not gone: %d", e)
	}
	wantUp(t, l, came(0, 1, ""))
	send(t, l, "d")
	wantOut(t, l, goes(4, 0, "d"))
}

// What is refused as too early or too old acknowledges all the same.
func TestP306AckOfAny(t *testing.T) {
	for _, seq := range []int{1, 2, 4, 5, 6, 60, api.MaxSeq} {
		l := made(t, 4, 9)
		send(t, l, "a", "b")
		l.Out()
		wantUp(t, l, came(1, 0, "x"), "x")
		l.Out()
		l.Take(came(seq, 1, "y"))
		wantUnder(t, l, goes(2, l.Next()-1, "b"))
		wantOut(t, l, goes(0, l.Next()-1, ""))
	}
}

// The age and whether it is due stay as they are, when a part or all of it is acknowledged.
func TestP306AgeStays(t *testing.T) {
	for age := range 3 {
		l := made(t, 3, 3)
		send(t, l, "a", "b")
		l.Out()
		ticks(l, age)
		wantUp(t, l, came(0, 1, ""))
		ticks(l, 2-age)
		wantOut(t, l)
		l.Tick()
		wantUp(t, l, came(0, 1, ""))
		wantOut(t, l, goes(2, 0, "b"))
	}
	l := made(t, 3, 3)
	send(t, l, "a", "b")
	l.Out()
	ticks(l, 3)
	wantUp(t, l, came(0, 2, ""))
	wantOut(t, l)
	send(t, l, "c")
	wantOut(t, l, goes(3, 0, "c"))
}

// Due, and all is acknowledged ahead of Out: what goes for the first time then is not doubled.
func TestP306DueForNothing(t *testing.T) {
	l := made(t, 3, 1)
	send(t, l, "a")
	l.Out()
	l.Tick()
	wantUp(t, l, came(0, 1, ""))
	send(t, l, "b")
	wantOut(t, l, goes(2, 0, "b"))
	wantOut(t, l)
}

func TestP306InTurn(t *testing.T) {
	l := made(t, 4, 1)
	wantUp(t, l, came(4, 0, "d"))
	wantUp(t, l, came(2, 0, "b"))
	wantNext(t, l, 1)
	wantUp(t, l, came(1, 0, "a"), "a", "b")
	wantNext(t, l, 3)
	wantUp(t, l, came(3, 0, "c"), "c", "d")
	wantNext(t, l, 5)
	for seq := range 4 {
		wantUp(t, l, came(seq+1, 0, "again"))
	}
	wantNext(t, l, 5)
	wantUp(t, l, came(5, 0, "e"), "e")
}

// Of two with one number that wait, the first one counts.
func TestP306FirstCounts(t *testing.T) {
	l := made(t, 4, 1)
	wantUp(t, l, came(2, 0, "b"))
	wantUp(t, l, came(2, 0, "other"))
	wantUp(t, l, came(1, 0, "a"), "a", "b")
	wantUp(t, l, came(2, 0, "other"))
	wantUp(t, l, came(4, 0, "d"))
	wantUp(t, l, came(3, 0, "c"), "c", "d")
}

func TestP306WindowEnd(t *testing.T) {
	for window := 1; window <= api.MaxWindow; window++ {
		l := made(t, window, 1)
		wantUp(t, l, came(1+window, 0, "beyond"))
		wantUp(t, l, came(2+window, 0, "beyond"))
		wantOut(t, l, goes(0, 0, ""))
		texts := make([]string, window)
		for i := range texts {
			texts[i] = strings.Repeat("a", i)
		}
		for seq := window; seq > 1; seq-- {
			wantUp(t, l, came(seq, 0, texts[seq-1]))
			wantUp(t, l, came(1+window, 0, "beyond"))
		}
		wantUp(t, l, came(1, 0, texts[0]), texts...)
		wantNext(t, l, 1+window)
		wantUp(t, l, came(1+2*window, 0, "beyond"))
		wantUp(t, l, came(1+window, 0, "now"), "now")
		wantNext(t, l, 2+window)
	}
}

func TestP307UnderAndNext(t *testing.T) {
	l := made(t, 3, 2)
	send(t, l, "a", "b")
	wantUnder(t, l)
	wantOut(t, l, goes(1, 0, "a"), goes(2, 0, "b"))
	wantUnder(t, l, goes(1, 0, "a"), goes(2, 0, "b"))
	wantUp(t, l, came(1, 0, "x"), "x")
	wantNext(t, l, 2)
	wantUnder(t, l, goes(1, 1, "a"), goes(2, 1, "b"))
	wantUp(t, l, came(3, 1, "z"))
	wantNext(t, l, 2)
	wantUnder(t, l, goes(2, 1, "b"))
	send(t, l, "c")
	wantUnder(t, l, goes(2, 1, "b"))
	wantUp(t, l, came(2, 0, "y"), "y", "z")
	wantNext(t, l, 4)
	wantUnder(t, l, goes(2, 3, "b"))
	wantOut(t, l, goes(0, 3, ""), goes(3, 3, "c"))
}

// Asking changes nothing.
func TestP307Asked(t *testing.T) {
	l := busy(t)
	for range 3 {
		l.Under()
		l.Next()
		l.Room()
	}
	wantBusy(t, l)
}
