package net_test

import (
	"bytes"
	"math"
	"testing"

	"sluice/api"
	"sluice/net"
)

func TestP401New(t *testing.T) {
	for _, room := range []int{1, 2, 3, 1023, 1024} {
		b := made(t, room)
		if b.Len() != 0 {
			t.Errorf("New(%d) has %d letters", room, b.Len())
		}
	}
}

func TestP401Refused(t *testing.T) {
	for _, room := range []int{0, -1, -1024, 1025, 2048, math.MaxInt, math.MinInt} {
		if b, e := net.New(room); b != nil || e != api.ErrArg {
			t.Errorf("New(%d): %v, %d, want nil, %d", room, b, e, api.ErrArg)
		}
	}
}

// The room is what New was given, neither more nor less, at every size.
func TestP402Room(t *testing.T) {
	for _, room := range []int{1, 2, 3, 7, 64, 1023, 1024} {
		b := made(t, room)
		for i := range room {
			want(t, "Send", b.Send(api.Letter{From: i, To: room}), api.OK)
		}
		for range 2 {
			want(t, "Send beyond the room", b.Send(api.Letter{From: -1}), api.ErrLost)
		}
		if b.Len() != room {
			t.Fatalf("a bag of the room %d has %d letters", room, b.Len())
		}
		for i, l := range all(t, b) {
			if !same(l, api.Letter{From: i, To: room}) {
				t.Errorf("at %d stands %s", i, told([]api.Letter{l}))
			}
		}
	}
}

func TestP402LastPlace(t *testing.T) {
	b := filled(t, 3, "a")
	wantBag(t, b, "a")
	want(t, "Send", b.Send(letter("b")), api.OK)
	wantBag(t, b, "ab")
	want(t, "Send", b.Send(letter("a")), api.OK)
	wantBag(t, b, "aba")
}

// A letter that finds no room is gone: it does not come when there is room again, and there is just one place then.
func TestP402LostIsGone(t *testing.T) {
	b := filled(t, 2, "ab")
	want(t, "Send", b.Send(letter("c")), api.ErrLost)
	wantBag(t, b, "ab")
	want(t, "Drop", b.Drop(0), api.OK)
	wantBag(t, b, "b")
	want(t, "Send", b.Send(letter("d")), api.OK)
	want(t, "Send", b.Send(letter("e")), api.ErrLost)
	wantBag(t, b, "bd")
}

// From and To are any ints, Data any bytes: the bag looks into none of them.
func TestP402AnyLetter(t *testing.T) {
	every := make([]byte, 256)
	for i := range every {
		every[i] = byte(i)
	}
	list := []api.Letter{
		{},
		{From: math.MaxInt, To: math.MinInt, Data: every},
		{From: -1, To: -1, Data: []byte{0}},
		{From: 3, To: 3, Data: []byte{}},
		{From: 0, To: 16, Data: bytes.Repeat([]byte{255}, 1<<20)},
	}
	b := made(t, len(list))
	for _, l := range list {
		want(t, "Send", b.Send(l), api.OK)
	}
	wantAll(t, b, list)
	for i, l := range list {
		if got, e := b.Deliver(0); e != api.OK || !same(got, l) {
			t.Errorf("letter %d comes as %s, %d", i, told([]api.Letter{got}), e)
		}
	}
}

func TestP403Len(t *testing.T) {
	b := made(t, 2)
	for i, c := range []struct {
		call func() api.Errno
		len  int
	}{
		{func() api.Errno { return b.Send(letter("a")) }, 1},
		{func() api.Errno { return b.Double(0) }, 2},
		{func() api.Errno { return b.Send(letter("b")) }, 2},
		{func() api.Errno { return b.Double(0) }, 2},
		{func() api.Errno { return b.Move(1, 0) }, 2},
		{func() api.Errno { return b.Drop(2) }, 2},
		{func() api.Errno { return b.Drop(0) }, 1},
		{func() api.Errno { _, e := b.At(0); return e }, 1},
		{func() api.Errno { _, e := b.Deliver(0); return e }, 0},
		{func() api.Errno { _, e := b.Deliver(0); return e }, 0},
	} {
		c.call()
		if b.Len() != c.len {
			t.Fatalf("behind call %d: %d letters, want %d", i, b.Len(), c.len)
		}
	}
}

func TestP403At(t *testing.T) {
	b := filled(t, 5, "abc")
	for i, l := range letters("abc") {
		for range 2 {
			if got, e := b.At(i); e != api.OK || !same(got, l) {
				t.Errorf("At(%d) = %s, %d", i, told([]api.Letter{got}), e)
			}
		}
	}
	wantBag(t, b, "abc")
}

func TestP403NoSuchLetter(t *testing.T) {
	for _, texts := range []string{"", "a", "abc", "abcde"} {
		b := filled(t, 5, texts)
		for _, i := range outside(len(texts)) {
			if l, e := b.At(i); e != api.ErrIndex || !isZero(l) {
				t.Errorf("At(%d) of %q: %s, %d", i, texts, told([]api.Letter{l}), e)
			}
		}
		wantBag(t, b, texts)
	}
}

func TestP404Deliver(t *testing.T) {
	for i, c := range []struct{ out, rest string }{{"a", "bcd"}, {"b", "acd"}, {"c", "abd"}, {"d", "abc"}} {
		b := filled(t, 4, "abcd")
		l, e := b.Deliver(i)
		if e != api.OK || !same(l, letter(c.out)) {
			t.Errorf("Deliver(%d) = %s, %d", i, told([]api.Letter{l}), e)
		}
		wantBag(t, b, c.rest)
	}
}

func TestP404Drop(t *testing.T) {
	for i, rest := range []string{"bcd", "acd", "abd", "abc"} {
		b := filled(t, 4, "abcd")
		want(t, "Drop", b.Drop(i), api.OK)
		wantBag(t, b, rest)
	}
}

func TestP404NoSuchLetter(t *testing.T) {
	for _, texts := range []string{"", "a", "abc", "abcde"} {
		b := filled(t, 5, texts)
		for _, i := range outside(len(texts)) {
			if l, e := b.Deliver(i); e != api.ErrIndex || !isZero(l) {
				t.Errorf("Deliver(%d) of %q: %s, %d", i, texts, told([]api.Letter{l}), e)
			}
			want(t, "Drop", b.Drop(i), api.ErrIndex)
		}
		wantBag(t, b, texts)
	}
}

// What is taken out makes room for just as many, and is not there any more.
func TestP404Emptied(t *testing.T) {
	b := filled(t, 3, "abc")
	b.Drop(1)
	b.Deliver(1)
	b.Drop(0)
	wantBag(t, b, "")
	want(t, "Drop", b.Drop(0), api.ErrIndex)
	for _, l := range letters("def") {
		want(t, "Send", b.Send(l), api.OK)
	}
	want(t, "Send", b.Send(letter("g")), api.ErrLost)
	wantBag(t, b, "def")
}

func TestP405Double(t *testing.T) {
	for i, now := range []string{"abca", "abcb", "abcc"} {
		b := filled(t, 4, "abc")
		want(t, "Double", b.Double(i), api.OK)
		wantBag(t, b, now)
	}
}

func TestP405DoubleRefused(t *testing.T) {
	for _, texts := range []string{"", "a", "abc"} {
		b := filled(t, 4, texts)
		for _, i := range outside(len(texts)) {
			want(t, "Double", b.Double(i), api.ErrIndex)
		}
		wantBag(t, b, texts)
	}
	full := filled(t, 3, "abc")
	for i := range 3 {
		want(t, "Double in a full bag", full.Double(i), api.ErrLost)
	}
	for _, i := range outside(3) {
		want(t, "Double of none in a full bag", full.Double(i), api.ErrIndex)
	}
	wantBag(t, full, "abc")
}

// Every pair of places, in a bag with room and in a full one.
func TestP405Move(t *testing.T) {
	now := [4][4]string{
		{"abcd", "bacd", "bcad", "bcda"},
		{"bacd", "abcd", "acbd", "acdb"},
		{"cabd", "acbd", "abcd", "abdc"},
		{"dabc", "adbc", "abdc", "abcd"},
	}
	for _, room := range []int{4, 5, 1024} {
		for i := range 4 {
			for j := range 4 {
				b := filled(t, room, "abcd")
				want(t, "Move", b.Move(i, j), api.OK)
				wantBag(t, b, now[i][j])
			}
		}
	}
	b := filled(t, 1, "a")
	want(t, "Move", b.Move(0, 0), api.OK)
	wantBag(t, b, "a")
}

func TestP405MoveRefused(t *testing.T) {
	for _, texts := range []string{"", "a", "abc"} {
		b := filled(t, 3, texts)
		for _, i := range outside(len(texts)) {
			for j := range texts {
				want(t, "Move", b.Move(i, j), api.ErrIndex)
				want(t, "Move", b.Move(j, i), api.ErrIndex)
			}
			for _, j := range outside(len(texts)) {
				want(t, "Move", b.Move(i, j), api.ErrIndex)
			}
		}
		wantBag(t, b, texts)
	}
}
