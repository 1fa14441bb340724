package cache_test

import (
	"slices"
	"testing"

	"sluice/api"
	"sluice/cache"
)

// dice: numbers that hang on its beginning alone.
type dice uint64

func (d *dice) roll(n int) int {
	*d = *d*6364136223846793005 + 1442695040888963407
	return int(uint64(*d) >> 33 % uint64(n))
}

func (d *dice) bytes(n int) []byte {
	b := make([]byte, n)
	for i := range b {
		b[i] = byte(d.roll(256))
	}
	return b
}

const maxRequest = 1 << 40

var noReply api.Reply

func call(session, id int) api.Call { return api.Call{Session: session, Id: id} }

func reply(session, id, value int) api.Reply { return api.Reply{Call: call(session, id), Value: value} }

func made(t *testing.T, me, replicas, sessions, room int) *cache.Cache {
	t.Helper()
	c, e := cache.New(me, replicas, sessions, room)
	if e != api.OK || c == nil {
		t.Fatalf("New(%d, %d, %d, %d): %v, %d", me, replicas, sessions, room, c, e)
	}
	return c
}

func wantRefused(t *testing.T, me, replicas, sessions, room int, want api.Errno) {
	t.Helper()
	if c, e := cache.New(me, replicas, sessions, room); c != nil || e != want {
		t.Errorf("New(%d, %d, %d, %d): %v, %d, want nil, %d", me, replicas, sessions, room, c, e, want)
	}
}

func wantBegin(t *testing.T, c *cache.Cache, x api.Call, want api.Reply, kept bool, err api.Errno) {
	t.Helper()
	if r, there, e := c.Begin(x); r != want || there != kept || e != err {
		t.Errorf("Begin(%v): %v, %v, %d, want %v, %v, %d", x, r, there, e, want, kept, err)
	}
}

// wantNew: each of the requests is new; and pending then.
func wantNew(t *testing.T, c *cache.Cache, session int, ids ...int) {
	t.Helper()
	for _, id := range ids {
		wantBegin(t, c, call(session, id), noReply, false, api.OK)
		wantError(t, c, call(session, id), api.ErrPending)
	}
}

func wantError(t *testing.T, c *cache.Cache, x api.Call, err api.Errno) {
	t.Helper()
	wantBegin(t, c, x, noReply, false, err)
}

// wantKept: the requests were answered so, and it is told, again and again.
func wantKept(t *testing.T, c *cache.Cache, list ...api.Reply) {
	t.Helper()
	for range 2 {
		for _, r := range list {
			wantBegin(t, c, r.Call, r, true, api.OK)
		}
	}
}

func wantEnd(t *testing.T, c *cache.Cache, r api.Reply, err api.Errno) {
	t.Helper()
	if e := c.End(r); e != err {
		t.Errorf("End(%v): %d, want %d", r, e, err)
	}
}

// ended answers requests, each with ten times its id.
func ended(t *testing.T, c *cache.Cache, session int, ids ...int) {
	t.Helper()
	for _, id := range ids {
		wantEnd(t, c, reply(session, id, 10*id), api.OK)
	}
}

// wantOnly: of the ids of a session up to the last one, none of which is pending, the replies of these are kept.
func wantOnly(t *testing.T, c *cache.Cache, session int, ids ...int) {
	t.Helper()
	for id := 1; id <= c.Last(session); id++ {
		if slices.Contains(ids, id) {
			wantKept(t, c, reply(session, id, 10*id))
		} else {
			wantError(t, c, call(session, id), api.ErrStale)
		}
	}
}

func wantPending(t *testing.T, c *cache.Cache, want ...api.Call) {
	t.Helper()
	if got := c.Pending(); !slices.Equal(got, want) {
		t.Errorf("Pending: %v, want %v", got, want)
	}
}

func wantLast(t *testing.T, c *cache.Cache, session, want int) {
	t.Helper()
	if got := c.Last(session); got != want {
		t.Errorf("Last(%d): %d, want %d", session, got, want)
	}
}
