package atom_test

import (
	"slices"
	"strings"
	"testing"

	"sluice/api"
)

// A copy has the same counters, caps, holds, and numbers that were used.
func TestP1604CopySame(t *testing.T) {
	m := with(t, 10, 8)
	wantDo(t, m, op(api.OpCreate, "j", 5, 0), 0, api.OK)
	wantDo(t, m, op(api.OpRecap, "j", 6), 6, api.OK)
	wantHold(t, m, 1, 16)
	wantHold(t, m, 2, 32)
	wantHold(t, m, 3, 48)
	wantDo(t, m, op(api.OpCommit, "k", 16), 1, api.OK)
	c := m.Copy()
	if c == nil || c == m {
		t.Fatalf("Copy: %p of %p", c, m)
	}
	wantNames(t, c, "j", "k")
	wantPeek(t, c, "k", 2, 5, 10)
	wantPeek(t, c, "j", 0, 0, 6)
	for _, number := range []int{16, 32, 48} {
		wantDone(t, c, op(api.OpHold, "k", 1, 1), number, 0, api.ErrArg)
	}
	wantDo(t, c, op(api.OpCommit, "k", 16), 0, api.ErrHold)
	wantDo(t, c, op(api.OpCommit, "k", 32), 2, api.OK)
	wantDo(t, c, op(api.OpRelease, "k", 48), 3, api.OK)
	wantPeek(t, c, "k", 5, 0, 10)
	wantPeek(t, m, "k", 2, 5, 10)
}

// Whatever happens to one of two copies: the other one is as it was.
func TestP1604CopyApart(t *testing.T) {
	for _, o := range []api.Op{
		op(api.OpCreate, "a", 5, 5), op(api.OpInc, "k", 1), op(api.OpDec, "k", 1), op(api.OpHold, "k", 1, 1), op(api.OpCommit, "k", 16),
		op(api.OpRelease, "k", 16), op(api.OpExpire, "k", 16), op(api.OpTake, "k", 5, 2), op(api.OpReset, "k", 0), op(api.OpRecap, "k", 30),
	} {
		for turned := range 2 {
			m := with(t, 10, 7)
			wantHold(t, m, 2, 16)
			other := m.Copy()
			if turned == 1 {
				m, other = other, m
			}
			if _, e := m.Do(o, 32); e != api.OK {
				t.Fatalf("Do(%+v): %d", o, e)
			}
			wantNames(t, other, "k")
			wantPeek(t, other, "k", 5, 2, 10)
			wantHold(t, other, 3, 32) // the number is not used there
			wantDo(t, other, op(api.OpRelease, "k", 16), 2, api.OK)
			wantPeek(t, other, "k", 4, 3, 10)
		}
	}
}

// Of a map without counters too; and copies of copies.
func TestP1604CopyEmpty(t *testing.T) {
	m := made(t)
	c := m.Copy()
	if c == nil {
		t.Fatal("Copy: nil")
	}
	wantDo(t, c, op(api.OpCreate, "k", 5, 5), 0, api.OK)
	d := c.Copy()
	wantHold(t, d, 5, 1)
	wantNames(t, m)
	wantPeek(t, c, "k", 5, 0, 5)
	wantPeek(t, d, "k", 0, 5, 5)
	wantDo(t, m, op(api.OpCreate, "k", 3, 1), 0, api.OK)
	wantHold(t, c, 2, 1)
	wantPeek(t, m, "k", 1, 0, 3)
	wantPeek(t, c, "k", 3, 2, 5)
	wantPeek(t, d, "k", 0, 5, 5)
}

func TestP1601TwoMaps(t *testing.T) {
	one, two := made(t), made(t)
	wantDo(t, one, op(api.OpCreate, "k", 10, 4), 0, api.OK)
	wantNames(t, two)
	wantDo(t, two, op(api.OpCreate, "k", 5, 5), 0, api.OK)
	wantHold(t, one, 2, 16)
	wantDo(t, two, op(api.OpCommit, "k", 16), 0, api.ErrHold)
	wantHold(t, two, 1, 16)
	wantPeek(t, one, "k", 2, 2, 10)
	wantPeek(t, two, "k", 4, 1, 5)
}

// spoil overwrites a list up to the end of its spare room.
func spoil(list []string) {
	list = list[:cap(list)]
	for i := range list {
		list[i] = "z"
	}
}

// What is answered, up to the end of its spare room, is the caller's.
func TestP1606NewMemory(t *testing.T) {
	m := made(t)
	for _, name := range []string{"c", "a", "e", "b", "d"} {
		wantDo(t, m, op(api.OpCreate, name, 10, 4), 0, api.OK)
	}
	first, second := m.Names(), m.Names()
	spoil(first)
	wantNames(t, m, "a", "b", "c", "d", "e")
	wantNone(t, m, "z")
	wantDo(t, m, op(api.OpCreate, "aa", 10, 4), 0, api.OK)
	if !slices.Equal(second, []string{"a", "b", "c", "d", "e"}) {
		t.Errorf("a later call, or a change of one answer, reaches another: %q", second)
	}
	wantNames(t, m, "a", "aa", "b", "c", "d", "e")
	wantNames(t, m.Copy(), "a", "aa", "b", "c", "d", "e")
}

// A name that is a piece of a longer text is a name like another one.
func TestP1606PieceOfText(t *testing.T) {
	text := strings.Repeat("k", 1000)
	m := with(t, 10, 4)
	wantDo(t, m, op(api.OpInc, text[7:8], 1), 0, api.OK)
	wantDo(t, m, op(api.OpCreate, text[7:9], 3, 1), 0, api.OK)
	wantPeek(t, m, text[:1], 5, 0, 10)
	wantNames(t, m, "k", "kk")
}
