package views_test

import (
	"slices"
	"testing"

	"sluice/api"
)

// spoil overwrites a list up to the end of its spare room.
func spoil[T any](list []T, by T) {
	list = list[:cap(list)]
	for i := range list {
		list[i] = by
	}
}

// What is handed in stays as it was, up to the end of its spare room, whether it is taken or refused.
func TestP907NotChanged(t *testing.T) {
	rising := []api.View{few("a", 3), few("b", 2), few("c", 1), few("z", 9), few("y", 8)}
	falling := []api.View{few("c", 3), few("b", 2), few("a", 1), few("z", 9), few("y", 8)}
	for _, list := range [][]api.View{rising, falling} {
		v, handed := made(t, 0, 2), slices.Clone(list)
		v.Take(1, handed[:3])
		v.Take(1, handed[:3])
		v.Take(0, handed[:3])
		v.Take(1, handed[:2])
		if !slices.Equal(handed, list) {
			t.Errorf("what was handed in has changed: %+v, was %+v", handed, list)
		}
	}
}

func TestP907NotKept(t *testing.T) {
	v := made(t, 0, 2)
	handed := []api.View{few("a", 1), few("b", 1)}
	wantTaken(t, v, 1, handed, 2, api.OK)
	spoil(handed, view("b", 99, 50, 7, 7, 7))
	for _, name := range []string{"a", "b"} {
		wantKnown(t, v, name, rights(0, 0), rights(1, 2))
		wantAbout(t, v, name, 1, true)
	}
	wantTaken(t, v, 1, []api.View{few("b", 2)}, 1, api.OK)
}

// What is answered, up to the end of its spare room, is the caller's.
func TestP907NewMemory(t *testing.T) {
	v := made(t, 0, 2)
	for _, name := range []string{"a", "b", "c"} {
		wantTold(t, v, few(name, 0), api.OK)
	}
	digest, again := v.Digest(), v.Digest()
	known, knownAgain := v.Known("a"), v.Known("a")
	spoil(digest, view("x", 99, 50, 7, 7, 7))
	spoil(known, rights(7, 7))
	wantDigest(t, v, few("a", 1), few("b", 1), few("c", 1))
	wantKnown(t, v, "a", rights(1, 2), rights(0, 0))
	if !slices.Equal(again, []api.View{few("a", 1), few("b", 1), few("c", 1)}) || knownAgain[0] != rights(1, 2) {
		t.Errorf("a change of one answer reaches another: %+v, %v", again, knownAgain)
	}
	wantTold(t, v, view("a", 0, 5, 5, 0, 0), api.OK)
	wantTaken(t, v, 1, []api.View{few("a", 1)}, 1, api.OK)
	if again[0] != few("a", 1) || knownAgain[0] != rights(1, 2) || knownAgain[1] != rights(0, 0) {
		t.Errorf("a later call reaches what was answered: %+v, %v", again, knownAgain)
	}
}

func TestP907TwoViews(t *testing.T) {
	one, two := made(t, 0, 3), made(t, 0, 3)
	wantTold(t, one, few("k", 0), api.OK)
	wantTaken(t, one, 1, []api.View{few("k", 5)}, 1, api.OK)
	wantDigest(t, two)
	wantNothing(t, two, "k", 3)
	wantTaken(t, two, 1, []api.View{few("k", 4)}, 1, api.OK)
	wantTold(t, two, view("k", 0, 5, 5, 0, 0), api.OK)
	wantDigest(t, two, view("k", 1, 5, 5, 0, 0))
	wantDigest(t, one, few("k", 1))
	wantKnown(t, one, "k", rights(1, 2), rights(1, 2), rights(0, 0))
}

// A digest of one replica, handed to another as it is: neither reaches the other by it.
func TestP907DigestHandedOn(t *testing.T) {
	one, two := made(t, 0, 2), made(t, 1, 2)
	wantTold(t, one, few("k", 0), api.OK)
	wantTaken(t, two, 0, one.Digest(), 1, api.OK)
	wantTold(t, one, view("k", 0, 5, 5, 0, 0), api.OK)
	wantKnown(t, two, "k", rights(1, 2), rights(0, 0))
	wantTaken(t, two, 0, one.Digest(), 1, api.OK)
	wantTaken(t, two, 0, []api.View{view("k", 3, 5, 0, 0, 0)}, 1, api.OK)
	wantDigest(t, one, view("k", 2, 5, 5, 0, 0))
}
