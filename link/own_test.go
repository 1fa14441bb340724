package link_test

import (
	"bytes"
	"slices"
	"testing"

	"sluice/api"
	"sluice/link"
)

// roomy tells bytes with spare room behind them, and all of it, to be held against later.
func roomy(text string) (data, all []byte) {
	all = append([]byte(text), "spare"...)
	return all[:len(text)], all
}

// spoil overwrites a list's bytes, its spare room too.
func spoil(b []byte) {
	for i := range b[:cap(b)] {
		b[:cap(b)][i] = '#'
	}
}

func spoilSegments(list []api.Segment) {
	list = list[:cap(list)]
	for i := range list {
		spoil(list[i].Data)
		list[i] = api.Segment{From: 9, To: 9, Seq: 9, Ack: 9}
	}
}

func spoilLists(up [][]byte) {
	up = up[:cap(up)]
	for i := range up {
		spoil(up[i])
		up[i] = []byte("#")
	}
}

func TestP308SendKeepsNothing(t *testing.T) {
	l := made(t, 3, 1)
	data, all := roomy("abc")
	if e := l.Send(data); e != api.OK {
		t.Fatal(e)
	}
	l.Send(data)
	l.Out()
	if string(all) != "abcspare" {
		t.Errorf("what was handed in is %q now", all)
	}
	l.Send(data)
	spoil(all)
	wantUnder(t, l, goes(1, 0, "abc"), goes(2, 0, "abc"))
	l.Tick()
	wantOut(t, l, goes(1, 0, "abc"), goes(2, 0, "abc"), goes(3, 0, "abc"))
}

func TestP308TakeKeepsNothing(t *testing.T) {
	l := made(t, 3, 1)
	b, allB := roomy("bbb")
	a, allA := roomy("aaa")
	l.Take(api.Segment{From: 5, To: 3, Seq: 2, Data: b})
	if string(allB) != "bbbspare" {
		t.Errorf("what has come is %q now", allB)
	}
	spoil(allB)
	up, _ := l.Take(api.Segment{From: 5, To: 3, Seq: 1, Data: a})
	if string(allA) != "aaaspare" {
		t.Errorf("what has come is %q now", allA)
	}
	spoil(allA)
	if !sameLists(up, [][]byte{[]byte("aaa"), []byte("bbb")}) {
		t.Errorf("what was handed up is %q behind a change of what had come", up)
	}
	c, allC := roomy("ccc")
	up, _ = l.Take(api.Segment{From: 5, To: 3, Seq: 3, Data: c})
	spoilLists(up)
	if string(allC) != "cccspare" {
		t.Errorf("what has come is %q behind a change of what was handed up", allC)
	}
}

func TestP308RefusedIsNotChanged(t *testing.T) {
	l := made(t, 1, 1)
	send(t, l, "a")
	data, all := roomy("bbb")
	l.Send(data)
	l.Take(api.Segment{From: 5, To: 3, Seq: 1, Ack: 7, Data: data})
	l.Take(api.Segment{From: 5, To: 3, Seq: 9, Data: data})
	if string(all) != "bbbspare" {
		t.Errorf("what was refused is %q now", all)
	}
}

func TestP308OutIsNew(t *testing.T) {
	l := made(t, 4, 1)
	send(t, l, "aa", "bb")
	spoilSegments(l.Out())
	wantUnder(t, l, goes(1, 0, "aa"), goes(2, 0, "bb"))
	l.Tick()
	l.Take(came(1, 0, "x"))
	send(t, l, "cc")
	spoilSegments(l.Out())
	wantUnder(t, l, goes(1, 1, "aa"), goes(2, 1, "bb"), goes(3, 1, "cc"))
	spoilSegments(l.Under())
	wantUnder(t, l, goes(1, 1, "aa"), goes(2, 1, "bb"), goes(3, 1, "cc"))
	l.Tick()
	out, under := l.Out(), l.Under()
	spoilSegments(under)
	if want := []api.Segment{goes(1, 1, "aa"), goes(2, 1, "bb"), goes(3, 1, "cc")}; !sameSegments(out, want) {
		t.Errorf("what Out told is %s behind a change of what Under told", told(out))
	}
}

// No list within an answer shares its memory, or its spare room, with another.
func TestP308ListsOfTheirOwn(t *testing.T) {
	l := made(t, 4, 1)
	send(t, l, "aaa", "b", "", "dd")
	for _, tell := range []func() []api.Segment{l.Out, l.Under} {
		list := tell()
		want := slices.Clone(list)
		for i := range want {
			want[i].Data = bytes.Clone(want[i].Data)
		}
		for i := range list {
			spoil(list[i].Data)
			want[i].Data = bytes.Repeat([]byte("#"), len(want[i].Data))
			if !sameSegments(list, want) {
				t.Errorf("a change of one is one of another: %s", told(list))
			}
		}
	}
	for seq := 4; seq > 1; seq-- {
		l.Take(came(seq, 0, "xyz"))
	}
	up, _ := l.Take(came(1, 0, "w"))
	want := [][]byte{[]byte("w"), []byte("xyz"), []byte("xyz"), []byte("xyz")}
	for i := range up {
		spoil(up[i])
		want[i] = bytes.Repeat([]byte("#"), len(want[i]))
		if !sameLists(up, want) {
			t.Errorf("a change of one is one of another: %q", up)
		}
	}
}

func TestP308TwoEnds(t *testing.T) {
	a, b := made(t, 2, 1), made(t, 2, 1)
	send(t, a, "a", "b")
	a.Out()
	a.Tick()
	a.Take(came(1, 1, "x"))
	wantRoom(t, b, 2)
	wantNext(t, b, 1)
	wantUnder(t, b)
	wantOut(t, b)
	send(t, b, "c")
	wantOut(t, b, goes(1, 0, "c"))
	wantOut(t, a, goes(0, 1, ""), goes(2, 1, "b"))
}

// An end hangs on what was done with it, not on how many ends there are.
func TestP308SameCallsSameAnswers(t *testing.T) {
	var ends []*link.Link
	for range 20 {
		ends = append(ends, busy(t))
	}
	for _, l := range ends {
		wantBusy(t, l)
	}
}
