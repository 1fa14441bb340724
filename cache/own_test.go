package cache_test

import (
	"slices"
	"testing"

	"sluice/api"
)

// spoil overwrites a list up to the end of its spare room.
func spoil[T any](list []T, by T) {
	list = list[:cap(list)]
	for i := range list {
		list[i] = by
	}
}

// What is answered, up to the end of its spare room, is the caller's.
func TestP1306NewMemory(t *testing.T) {
	c := made(t, 1, 3, 6, 2)
	wantNew(t, c, 4, 1, 2, 3)
	wantNew(t, c, 1, 1)
	first, second := c.Pending(), c.Pending()
	spoil(first, call(9, 9))
	wantPending(t, c, call(1, 1), call(4, 1), call(4, 2), call(4, 3))
	wantError(t, c, call(9, 9), api.ErrSession)
	ended(t, c, 4, 2)
	wantNew(t, c, 1, 2)
	if !slices.Equal(second, []api.Call{call(1, 1), call(4, 1), call(4, 2), call(4, 3)}) {
		t.Errorf("a later call, or a change of one answer, reaches another: %v", second)
	}
	spoil(second, call(4, 7))
	wantPending(t, c, call(1, 1), call(1, 2), call(4, 1), call(4, 3))
}

// Two caches of one replica: what has come to one has not come to the other.
func TestP1306TwoCaches(t *testing.T) {
	one, two := made(t, 1, 3, 6, 2), made(t, 1, 3, 6, 2)
	wantNew(t, one, 4, 1, 2, 3)
	wantPending(t, two)
	wantLast(t, two, 4, 0)
	wantError(t, two, call(4, 2), api.ErrOrder)
	wantEnd(t, two, reply(4, 1, 5), api.ErrOrder)
	wantNew(t, two, 4, 1)
	wantEnd(t, two, reply(4, 1, 5), api.OK)
	wantPending(t, one, call(4, 1), call(4, 2), call(4, 3))
	ended(t, one, 4, 1, 2, 3)
	wantOnly(t, one, 4, 2, 3)
	wantKept(t, two, reply(4, 1, 5))
	wantPending(t, two)
	wantLast(t, two, 4, 1)
}

// Two sessions of one cache are apart too.
func TestP1306TwoSessions(t *testing.T) {
	c := made(t, 1, 3, 6, 1)
	wantNew(t, c, 4, 1, 2)
	wantError(t, c, call(1, 3), api.ErrOrder)
	wantNew(t, c, 1, 1)
	ended(t, c, 4, 2)
	wantError(t, c, call(1, 1), api.ErrPending)
	wantEnd(t, c, reply(1, 1, 7), api.OK)
	wantKept(t, c, reply(1, 1, 7), reply(4, 2, 20))
	wantPending(t, c, call(4, 1))
}
