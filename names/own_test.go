package names_test

import (
	"bytes"
	"slices"
	"testing"

	"sluice/api"
	"sluice/names"
)

// spoil overwrites a list up to the end of its spare room.
func spoil[T any](list []T, by T) {
	list = list[:cap(list)]
	for i := range list {
		list[i] = by
	}
}

// What is handed in stays as it was, up to the end of its spare room.
func TestP1009NotChanged(t *testing.T) {
	handed := []byte("abcdef")
	names.Hash(handed[:3])
	names.Hash(handed[:0])
	if !bytes.Equal(handed, []byte("abcdef")) {
		t.Errorf("what was handed in has changed: %q", handed)
	}
}

// What is answered, up to the end of its spare room, is the caller's.
func TestP1009NewMemory(t *testing.T) {
	x := made(t, 0, 3, 4)
	wantMade(t, x, "a", api.OK)
	wantMade(t, x, "b", api.OK)
	wantLearned(t, x, "k", true)
	for id := range 3 {
		wantAsk(t, x, call(1, id), read("k"), api.OK)
	}
	all, allAgain, calls, callsAgain := x.All(), x.All(), x.Asked(), x.Asked()
	spoil(all, "z")
	spoil(calls, call(9, 9))
	wantAll(t, x, "a", "b", "k")
	wantAsked(t, x, call(1, 0), call(1, 1), call(1, 2))
	wantKnows(t, x, "z", false)
	wantLearned(t, x, "c", true)
	wantTold(t, x, call(1, 0), read("k"), true)
	if !slices.Equal(allAgain, []string{"a", "b", "k"}) || !slices.Equal(callsAgain, []api.Call{call(1, 0), call(1, 1), call(1, 2)}) {
		t.Errorf("a later call, or a change of one answer, reaches another: %q, %v", allAgain, callsAgain)
	}
}

func TestP1009TwoTables(t *testing.T) {
	one, two := made(t, 0, 3, 1), made(t, 0, 3, 1)
	wantMade(t, one, "a", api.OK)
	wantLearned(t, one, "k", true)
	wantAsk(t, one, call(0, 1), read("q"), api.OK)
	wantAll(t, two)
	wantAsked(t, two)
	wantKnows(t, two, "a", false)
	wantTold(t, two, call(0, 1), api.Op{}, false)
	wantMade(t, two, "b", api.OK)
	wantLearned(t, two, "c", true)
	wantAsk(t, two, call(0, 1), read("k"), api.OK)
	wantAll(t, one, "a", "k")
	wantAll(t, two, "b", "c")
	wantTold(t, one, call(0, 1), read("q"), true)
	wantAsked(t, two, call(0, 1))
	wantTold(t, two, call(0, 1), read("k"), true)
}
