package cache_test

import (
	"math"
	"slices"
	"testing"

	"sluice/api"
	"sluice/cache"
)

// The table of the chapter.
func TestP1302Examples(t *testing.T) {
	wantRefused(t, 3, 3, 6, 2, api.ErrReplica)
	wantRefused(t, 0, 17, 6, 2, api.ErrArg)
	wantRefused(t, 0, 3, 0, 2, api.ErrArg)
	wantRefused(t, 0, 3, 6, 17, api.ErrArg)
	c := made(t, 1, 3, 6, 2)
	wantError(t, c, call(0, 1), api.ErrSession)
	wantError(t, c, call(7, 1), api.ErrSession)
	wantError(t, c, call(4, 0), api.ErrArg)
	wantError(t, c, call(4, 2), api.ErrOrder)
	wantNew(t, c, 4, 1, 2, 3, 4)
	wantPending(t, c, call(4, 1), call(4, 2), call(4, 3), call(4, 4))
	wantLast(t, c, 4, 4)
	wantLast(t, c, 0, 0)
	wantEnd(t, c, reply(4, 2, 20), api.OK)
	wantEnd(t, c, reply(4, 2, 21), api.ErrStale)
	wantEnd(t, c, reply(4, 5, 0), api.ErrOrder)
	wantKept(t, c, reply(4, 2, 20))
	wantEnd(t, c, reply(4, 3, 30), api.OK)
	wantEnd(t, c, reply(4, 4, 40), api.OK)
	wantError(t, c, call(4, 2), api.ErrStale)
	wantKept(t, c, reply(4, 3, 30))
	wantEnd(t, c, reply(4, 1, 10), api.OK)
	wantError(t, c, call(4, 1), api.ErrStale)
	wantPending(t, c)
}

func TestP1301Limits(t *testing.T) {
	for _, wrong := range []int{1, 0, -1, -3, 17, 18, 64, math.MinInt, math.MaxInt} {
		wantRefused(t, 0, wrong, 6, 2, api.ErrArg)
	}
	for _, wrong := range []int{0, -1, -64, 65, 66, 128, math.MinInt, math.MaxInt} {
		wantRefused(t, 0, 3, wrong, 2, api.ErrArg)
	}
	for _, wrong := range []int{0, -1, -16, 17, 18, 64, math.MinInt, math.MaxInt} {
		wantRefused(t, 0, 3, 6, wrong, api.ErrArg)
	}
	for _, wrong := range []int{-1, -2, -3, 3, 4, 6, math.MinInt, math.MaxInt} {
		wantRefused(t, wrong, 3, 6, 2, api.ErrReplica)
	}
	wantRefused(t, 16, 16, 64, 16, api.ErrReplica)
	wantRefused(t, 2, 2, 1, 1, api.ErrReplica)
	for _, right := range [][4]int{{0, 2, 1, 1}, {1, 2, 1, 1}, {0, 16, 64, 16}, {15, 16, 64, 16}, {15, 16, 1, 16}, {1, 2, 64, 1}} {
		c := made(t, right[0], right[1], right[2], right[3])
		wantPending(t, c)
		for session := range 64 {
			wantLast(t, c, session, 0)
		}
	}
}

// ErrArg comes ahead of ErrReplica.
func TestP1301FirstError(t *testing.T) {
	wantRefused(t, -1, 1, 6, 2, api.ErrArg)
	wantRefused(t, 17, 17, 6, 2, api.ErrArg)
	wantRefused(t, 3, 3, 0, 2, api.ErrArg)
	wantRefused(t, 3, 3, 65, 2, api.ErrArg)
	wantRefused(t, -1, 3, 6, 0, api.ErrArg)
	wantRefused(t, 3, 3, 6, 17, api.ErrArg)
}

// Each session is of one replica: in its cache, and in no other one.
func TestP1301Sessions(t *testing.T) {
	for replicas := 2; replicas <= 16; replicas++ {
		for _, sessions := range []int{1, 2, 7, replicas, 63, 64} {
			for me := range replicas {
				c := made(t, me, replicas, sessions, 1)
				for session := -70; session < 140; session++ {
					if session >= 0 && session < sessions && session%replicas == me {
						wantNew(t, c, session, 1)
						wantLast(t, c, session, 1)
						continue
					}
					wantError(t, c, call(session, 1), api.ErrSession)
					wantEnd(t, c, reply(session, 1, 5), api.ErrSession)
					wantLast(t, c, session, 0)
				}
			}
		}
	}
}

func TestP1301FarSessions(t *testing.T) {
	for replicas := 2; replicas <= 16; replicas++ {
		for me := range replicas {
			c := made(t, me, replicas, 64, 1)
			for _, edge := range []int{math.MinInt, -1 << 32, 1 << 32, math.MaxInt - 20} {
				for k := range 21 {
					session := edge + k
					wantError(t, c, call(session, 1), api.ErrSession)
					wantEnd(t, c, reply(session, 1, 5), api.ErrSession)
					wantLast(t, c, session, 0)
				}
			}
			wantPending(t, c)
		}
	}
}

func wrongIds() []int {
	return []int{0, -1, -2, -1 << 40, math.MinInt, maxRequest + 1, maxRequest + 2, 1 << 41, math.MaxInt}
}

// The errors in their order, and that none of them changes anything.
func TestP1302Errors(t *testing.T) {
	c := made(t, 1, 3, 6, 2)
	for _, session := range []int{0, 2, 3, 5, 6, 7, -2, -1} {
		for _, id := range append(wrongIds(), 1, 2) {
			wantError(t, c, call(session, id), api.ErrSession)
		}
	}
	for _, id := range wrongIds() {
		wantError(t, c, call(4, id), api.ErrArg)
	}
	for _, id := range []int{2, 3, 1 << 32, maxRequest - 1, maxRequest} {
		wantError(t, c, call(4, id), api.ErrOrder)
	}
	wantPending(t, c)
	wantLast(t, c, 4, 0)
	wantNew(t, c, 4, 1, 2)
	for _, id := range wrongIds() {
		wantError(t, c, call(4, id), api.ErrArg)
	}
	for _, id := range []int{4, 5, maxRequest} {
		wantError(t, c, call(4, id), api.ErrOrder)
	}
	wantError(t, c, call(1, 2), api.ErrOrder)
	wantPending(t, c, call(4, 1), call(4, 2))
	wantLast(t, c, 4, 2)
	wantLast(t, c, 1, 0)
}

// A reply is told as it was handed in, whatever it says.
func TestP1302WholeReply(t *testing.T) {
	c := made(t, 0, 2, 1, 16)
	list := []api.Reply{
		{Call: call(0, 1)},
		{Call: call(0, 2), Err: api.ErrMismatch, Value: 7},
		{Call: call(0, 3), Err: -5, Value: math.MinInt},
		{Call: call(0, 4), Err: math.MaxInt, Value: math.MaxInt},
		{Call: call(0, 5), Err: api.ErrStale},
	}
	for _, r := range list {
		wantNew(t, c, 0, r.Call.Id)
		wantEnd(t, c, r, api.OK)
	}
	wantKept(t, c, list...)
}

// Beginning a request that is answered, or is not yet, makes nothing of it pending.
func TestP1302AgainIsNothing(t *testing.T) {
	c := made(t, 0, 2, 4, 1)
	wantNew(t, c, 2, 1, 2, 3)
	ended(t, c, 2, 1, 2)
	for range 3 {
		wantError(t, c, call(2, 1), api.ErrStale)
		wantKept(t, c, reply(2, 2, 20))
		wantError(t, c, call(2, 3), api.ErrPending)
		wantPending(t, c, call(2, 3))
		wantLast(t, c, 2, 3)
	}
	wantEnd(t, c, reply(2, 1, 11), api.ErrStale)
	wantEnd(t, c, reply(2, 2, 21), api.ErrStale)
	wantKept(t, c, reply(2, 2, 20))
}

func TestP1303Errors(t *testing.T) {
	c := made(t, 1, 3, 6, 2)
	for _, id := range append(wrongIds(), 1) {
		wantEnd(t, c, reply(0, id, 1), api.ErrSession)
		wantEnd(t, c, reply(7, id, 1), api.ErrSession)
	}
	for _, id := range []int{1, 2, maxRequest, maxRequest + 1, math.MaxInt} {
		wantEnd(t, c, reply(4, id, 1), api.ErrOrder)
	}
	for _, id := range []int{0, -1, -1 << 40, math.MinInt} {
		wantEnd(t, c, reply(4, id, 1), api.ErrStale)
	}
	wantNew(t, c, 4, 1, 2, 3)
	wantEnd(t, c, reply(1, 1, 1), api.ErrOrder) // another session's
	wantEnd(t, c, reply(4, 4, 1), api.ErrOrder)
	for _, id := range []int{0, -1, math.MinInt} {
		wantEnd(t, c, reply(4, id, 1), api.ErrStale)
	}
	wantPending(t, c, call(4, 1), call(4, 2), call(4, 3))
	ended(t, c, 4, 2)
	wantEnd(t, c, reply(4, 2, 99), api.ErrStale)
	wantPending(t, c, call(4, 1), call(4, 3))
	wantKept(t, c, reply(4, 2, 20))
	wantLast(t, c, 4, 3)
}

// In their order: the last ones stay.
func TestP1303InOrder(t *testing.T) {
	for room := 1; room <= 16; room++ {
		c := made(t, 0, 2, 1, room)
		for id := 1; id <= 50; id++ {
			wantNew(t, c, 0, id)
			ended(t, c, 0, id)
			var last []int
			for k := max(1, id-room+1); k <= id; k++ {
				last = append(last, k)
			}
			wantOnly(t, c, 0, last...)
		}
	}
}

// In the order against it: the first ones to come are the ones that stay.
func TestP1303AgainstOrder(t *testing.T) {
	for room := 1; room <= 16; room++ {
		c := made(t, 0, 2, 1, room)
		var all []int
		for id := 1; id <= 40; id++ {
			wantNew(t, c, 0, id)
			all = append(all, id)
		}
		for id := 40; id >= 1; id-- {
			ended(t, c, 0, id)
		}
		wantOnly(t, c, 0, all[40-room:]...)
		wantPending(t, c)
	}
}

// Every order in which six requests can be answered, at every room.
func TestP1303EveryOrder(t *testing.T) {
	for _, order := range orders(6) {
		for room := 1; room <= 7; room++ {
			c := made(t, 0, 2, 1, room)
			wantNew(t, c, 0, 1, 2, 3, 4, 5, 6)
			for k, id := range order {
				ended(t, c, 0, id)
				done := slices.Sorted(slices.Values(order[:k+1]))
				kept := done[max(0, len(done)-room):]
				for _, id := range done {
					if slices.Contains(kept, id) {
						wantKept(t, c, reply(0, id, 10*id))
					} else {
						wantError(t, c, call(0, id), api.ErrStale)
					}
				}
				for _, id := range order[k+1:] {
					wantError(t, c, call(0, id), api.ErrPending)
				}
			}
		}
	}
}

// orders tells all orders of the numbers from 1 to n.
func orders(n int) [][]int {
	if n == 0 {
		return [][]int{nil}
	}
	var all [][]int
	for _, shorter := range orders(n - 1) {
		for place := range n {
			all = append(all, slices.Insert(slices.Clone(shorter), place, n))
		}
	}
	return all
}

// A late reply takes the place of the smallest one, if that is smaller, wherever the ring begins.
func TestP1303LateInTheMiddle(t *testing.T) {
	for turns := range 12 {
		c := made(t, 0, 2, 1, 3)
		for id := 1; id <= turns; id++ {
			wantNew(t, c, 0, id)
			ended(t, c, 0, id)
		}
		wantNew(t, c, 0, turns+1, turns+2, turns+3, turns+4, turns+5, turns+6)
		ended(t, c, 0, turns+2, turns+6, turns+4)
		wantKept(t, c, reply(0, turns+2, 10*turns+20), reply(0, turns+4, 10*turns+40), reply(0, turns+6, 10*turns+60))
		ended(t, c, 0, turns+3)
		wantError(t, c, call(0, turns+2), api.ErrStale)
		wantKept(t, c, reply(0, turns+3, 10*turns+30), reply(0, turns+4, 10*turns+40), reply(0, turns+6, 10*turns+60))
		ended(t, c, 0, turns+1) // behind three with greater ids: not kept at all
		ended(t, c, 0, turns+5)
		wantOnly(t, c, 0, turns+4, turns+5, turns+6)
		wantPending(t, c)
	}
}

// The room is each session's own.
func TestP1303RoomOfASession(t *testing.T) {
	c := made(t, 1, 2, 64, 2)
	for session := 63; session >= 1; session -= 2 {
		for id := 1; id <= 3; id++ {
			wantNew(t, c, session, id)
			ended(t, c, session, id)
		}
	}
	for session := 1; session <= 63; session += 2 {
		wantOnly(t, c, session, 2, 3)
		wantLast(t, c, session, 3)
	}
}

func TestP1304Pending(t *testing.T) {
	c := made(t, 2, 5, 64, 3)
	var want []api.Call
	for session := 62; session >= 2; session -= 5 {
		wantNew(t, c, session, 1, 2, 3)
		ended(t, c, session, 2)
	}
	for session := 2; session <= 62; session += 5 {
		want = append(want, call(session, 1), call(session, 3))
	}
	wantPending(t, c, want...)
	wantPending(t, c, want...)
	ended(t, c, 12, 1, 3)
	wantPending(t, c, slices.DeleteFunc(want, func(x api.Call) bool { return x.Session == 12 })...)
}

// More are pending than replies are kept: that has no bound.
func TestP1304ManyPending(t *testing.T) {
	c := made(t, 0, 16, 64, 1)
	var want []api.Call
	for id := 1; id <= 3000; id++ {
		wantNew(t, c, 48, id)
		want = append(want, call(48, id))
	}
	wantPending(t, c, want...)
	wantLast(t, c, 48, 3000)
	for id := 3000; id >= 1; id-- {
		ended(t, c, 48, id)
	}
	wantPending(t, c)
	wantOnly(t, c, 48, 3000)
}

func TestP1304Last(t *testing.T) {
	c := made(t, 1, 3, 6, 2)
	wantNew(t, c, 4, 1)
	wantLast(t, c, 4, 1)
	wantLast(t, c, 1, 0)
	ended(t, c, 4, 1)
	wantLast(t, c, 4, 1)
	wantNew(t, c, 4, 2, 3)
	ended(t, c, 4, 3)
	wantLast(t, c, 4, 3)
	for _, session := range []int{-4, -2, -1, 0, 1, 2, 3, 5, 6, 7, 10, 64, math.MinInt, math.MaxInt} {
		wantLast(t, c, session, 0)
	}
}

// A client that asks on and on, whose requests are answered late, is told of each once that it is new.
func TestP1305Once(t *testing.T) {
	d := dice(5)
	for range 40 {
		room := 1 + d.roll(16)
		c := made(t, 0, 2, 2, room)
		fresh, told := map[api.Call]int{}, map[api.Call]api.Reply{}
		for range 600 {
			x := call(0, 1+d.roll(c.Last(0)+2))
			r, kept, e := c.Begin(x)
			switch {
			case kept:
				wantSame(t, told, r)
			case e == api.OK:
				fresh[x]++
			}
			answerOne(t, &d, c, told)
		}
		wantOnce(t, c, fresh)
		wantEnded(t, c, told, room)
	}
}

// answerOne answers one of the pending requests, now and then.
func answerOne(t *testing.T, d *dice, c *cache.Cache, told map[api.Call]api.Reply) {
	t.Helper()
	open := c.Pending()
	if len(open) == 0 || d.roll(3) == 0 {
		return
	}
	r := api.Reply{Call: open[d.roll(len(open))], Err: api.Errno(d.roll(3)), Value: d.roll(1000)}
	wantEnd(t, c, r, api.OK)
	told[r.Call] = r
}

func wantSame(t *testing.T, told map[api.Call]api.Reply, r api.Reply) {
	t.Helper()
	if was, there := told[r.Call]; !there || was != r {
		t.Errorf("answered %v, told %v, %v", was, r, there)
	}
}

func wantOnce(t *testing.T, c *cache.Cache, fresh map[api.Call]int) {
	t.Helper()
	if len(fresh) != c.Last(0) || len(fresh) == 0 {
		t.Errorf("%d requests were new, the last one is %d", len(fresh), c.Last(0))
	}
	for x, times := range fresh {
		if times != 1 {
			t.Errorf("%v was new %d times", x, times)
		}
	}
}

// wantEnded: a reply is told as long as no more than room have greater or equal ids.
func wantEnded(t *testing.T, c *cache.Cache, told map[api.Call]api.Reply, room int) {
	t.Helper()
	for x, r := range told {
		greater := 0
		for y := range told {
			if y.Id >= x.Id {
				greater++
			}
		}
		if greater <= room {
			wantKept(t, c, r)
		} else {
			wantError(t, c, x, api.ErrStale)
		}
	}
}
