package link_test

import (
	"math"
	"strconv"
	"strings"
	"testing"

	"sluice/api"
	"sluice/link"
)

func TestP301Bounds(t *testing.T) {
	const low, high = math.MinInt, math.MaxInt
	for _, c := range []struct {
		me, peer, window, resend int
		want                     api.Errno
	}{
		{0, 1, 2, 3, api.OK}, {15, 0, 16, 1000, api.OK}, {0, 15, 1, 1, api.OK}, {14, 15, 16, 1, api.OK}, {15, 14, 1, 1000, api.OK},

		{-1, 1, 2, 3, api.ErrReplica}, {16, 1, 2, 3, api.ErrReplica}, {low, 1, 2, 3, api.ErrReplica}, {high, 1, 2, 3, api.ErrReplica},
		{1, -1, 2, 3, api.ErrReplica}, {1, 16, 2, 3, api.ErrReplica}, {1, low, 2, 3, api.ErrReplica}, {1, high, 2, 3, api.ErrReplica},
		{0, 0, 2, 3, api.ErrReplica}, {15, 15, 2, 3, api.ErrReplica}, {16, 16, 2, 3, api.ErrReplica},

		{0, 1, 0, 3, api.ErrArg}, {0, 1, 17, 3, api.ErrArg}, {0, 1, -1, 3, api.ErrArg}, {0, 1, low, 3, api.ErrArg}, {0, 1, high, 3, api.ErrArg},
		{0, 1, 2, 0, api.ErrArg}, {0, 1, 2, 1001, api.ErrArg}, {0, 1, 2, -1, api.ErrArg}, {0, 1, 2, low, api.ErrArg}, {0, 1, 2, high, api.ErrArg},

		{0, 0, 0, 3, api.ErrReplica}, {0, 0, 2, 0, api.ErrReplica}, {-1, 1, 17, 3, api.ErrReplica}, {1, 16, 2, 1001, api.ErrReplica}, {0, 1, 0, 0, api.ErrArg},
	} {
		if l, e := link.New(c.me, c.peer, c.window, c.resend); e != c.want || (l == nil) != (e != api.OK) {
			t.Errorf("New(%d, %d, %d, %d) = %v, %d, want %d", c.me, c.peer, c.window, c.resend, l, e, c.want)
		}
	}
}

func TestP301EveryPair(t *testing.T) {
	for me := -2; me <= 17; me++ {
		for peer := -2; peer <= 17; peer++ {
			good := me != peer && min(me, peer) >= 0 && max(me, peer) <= 15
			if _, e := link.New(me, peer, 1, 1); (e == api.OK) != good || (e == api.ErrReplica) == good {
				t.Errorf("New(%d, %d, 1, 1): %d", me, peer, e)
			}
		}
	}
}

func TestP301New(t *testing.T) {
	l := made(t, 4, 1)
	wantNext(t, l, 1)
	wantRoom(t, l, 4)
	wantUnder(t, l)
	wantOut(t, l)
	ticks(l, 5)
	wantOut(t, l)
	if _, e := l.Take(came(0, 1, "")); e != api.ErrLink {
		t.Errorf("an Ack of 1, and nothing has gone: %d", e)
	}
}

func TestP302Length(t *testing.T) {
	l := made(t, 3, 1)
	full := strings.Repeat("x", 4000)
	if e := l.Send([]byte(full + "x")); e != api.ErrLong {
		t.Errorf("4,001 bytes: %d", e)
	}
	wantRoom(t, l, 3)
	send(t, l, full, "")
	if e := l.Send(nil); e != api.OK {
		t.Errorf("nil: %d", e)
	}
	wantOut(t, l, goes(1, 0, full), goes(2, 0, ""), goes(3, 0, ""))
}

func TestP302Full(t *testing.T) {
	for window := 1; window <= api.MaxWindow; window++ {
		l := made(t, window, 1)
		var want []api.Segment
		for i := range window {
			text := strconv.Itoa(i)
			send(t, l, text)
			want = append(want, goes(i+1, 0, text))
			if i == window/2 {
				wantOut(t, l, want...)
				want = nil
			}
		}
		for range 2 {
			if e := l.Send([]byte("more")); e != api.ErrFull {
				t.Errorf("window %d, all of it taken: %d", window, e)
			}
		}
		wantOut(t, l, want...)
		if e := l.Send(nil); e != api.ErrFull {
			t.Errorf("window %d, all under way: %d", window, e)
		}
		wantUp(t, l, came(0, 1, ""))
		send(t, l, "more")
		wantOut(t, l, goes(window+1, 0, "more"))
	}
}

func TestP302Order(t *testing.T) {
	l := made(t, 1, 1)
	send(t, l, "a")
	if e := l.Send(make([]byte, 4001)); e != api.ErrLong {
		t.Errorf("too long, and the box is full: %d", e)
	}
	if e := l.Send(make([]byte, 4000)); e != api.ErrFull {
		t.Errorf("the box is full: %d", e)
	}
	wantOut(t, l, goes(1, 0, "a"))
}

func TestP303Room(t *testing.T) {
	l := made(t, 3, 2)
	wantRoom(t, l, 3)
	send(t, l, "a")
	wantRoom(t, l, 2)
	l.Out()
	wantRoom(t, l, 2)
	send(t, l, "b", "c")
	wantRoom(t, l, 0)
	ticks(l, 2)
	l.Out()
	wantRoom(t, l, 0)
	l.Take(came(1, 2, "z"))
	wantRoom(t, l, 2)
	l.Take(came(3, 0, "early"))
	wantRoom(t, l, 2)
	l.Take(came(0, 3, ""))
	wantRoom(t, l, 3)
}

func TestP304Order(t *testing.T) {
	l := made(t, 4, 1)
	send(t, l, "a", "b")
	wantOut(t, l, goes(1, 0, "a"), goes(2, 0, "b"))
	wantOut(t, l)
	wantUp(t, l, came(1, 0, "x"), "x")
	l.Tick()
	send(t, l, "c", "")
	wantOut(t, l, goes(0, 1, ""), goes(1, 1, "a"), goes(2, 1, "b"), goes(3, 1, "c"), goes(4, 1, ""))
	wantOut(t, l)
	wantUnder(t, l, goes(1, 1, "a"), goes(2, 1, "b"), goes(3, 1, "c"), goes(4, 1, ""))
}

func TestP304Owed(t *testing.T) {
	l := made(t, 2, 2)
	wantUp(t, l, came(0, 0, ""))
	wantOut(t, l)
	wantUp(t, l, came(2, 0, "b"))
	wantOut(t, l, goes(0, 0, ""))
	wantOut(t, l)
	wantUp(t, l, came(1, 0, "a"), "a", "b")
	wantUp(t, l, came(2, 0, "b"))
	wantOut(t, l, goes(0, 2, ""))
	wantOut(t, l)
}

// An end may owe and have something to say: the acknowledgement goes all the same, and apart.
func TestP304OwedBesideData(t *testing.T) {
	l := made(t, 2, 2)
	wantUp(t, l, came(1, 0, "a"), "a")
	send(t, l, "b")
	wantOut(t, l, goes(0, 1, ""), goes(1, 1, "b"))
}

func TestP304AgeBegins(t *testing.T) {
	l := made(t, 4, 3)
	send(t, l, "a")
	wantOut(t, l, goes(1, 0, "a"))
	ticks(l, 2)
	send(t, l, "b")
	wantOut(t, l, goes(2, 0, "b"))
	l.Tick()
	wantOut(t, l, goes(1, 0, "a"), goes(2, 0, "b"))
	ticks(l, 2)
	wantUp(t, l, came(0, 2, ""))
	send(t, l, "c")
	wantOut(t, l, goes(3, 0, "c"))
	ticks(l, 2)
	wantOut(t, l)
	l.Tick()
	wantOut(t, l, goes(3, 0, "c"))
}

func TestP305Tick(t *testing.T) {
	for _, resend := range []int{1, 2, 7, api.MaxTicks} {
		l := made(t, 2, resend)
		ticks(l, resend+1)
		send(t, l, "a")
		ticks(l, resend+1)
		wantOut(t, l, goes(1, 0, "a"))
		for range 3 {
			ticks(l, resend-1)
			wantOut(t, l)
			l.Tick()
			wantOut(t, l, goes(1, 0, "a"))
		}
		wantUp(t, l, came(0, 1, ""))
		ticks(l, resend+1)
		wantOut(t, l)
	}
}

// Due once is due, however many ticks go by till Out; and the age goes on meanwhile.
func TestP305DueStays(t *testing.T) {
	l := made(t, 2, 3)
	send(t, l, "a")
	wantOut(t, l, goes(1, 0, "a"))
	ticks(l, 8)
	wantOut(t, l, goes(1, 0, "a"))
	l.Tick()
	wantOut(t, l, goes(1, 0, "a"))
	ticks(l, 2)
	wantOut(t, l)
}
