package net_test

import (
	"testing"

	"sluice/api"
)

// roomy tells a letter with spare room behind its bytes, and all of them, to be held against later.
func roomy(text string) (l api.Letter, all []byte) {
	l = letter(text)
	all = append([]byte(text), "spare"...)
	l.Data = all[:len(text)]
	return l, all
}

// spoil overwrites a list's bytes, its spare room too.
func spoil(b []byte) {
	for i := range b[:cap(b)] {
		b[:cap(b)][i] = '#'
	}
}

func TestP406SendKeepsNothing(t *testing.T) {
	b := made(t, 3)
	l, all := roomy("a")
	want(t, "Send", b.Send(l), api.OK)
	want(t, "Send", b.Send(l), api.OK)
	b.Double(0)
	want(t, "Send", b.Send(l), api.ErrLost)
	b.Move(0, 2)
	if string(all) != "aspare" {
		t.Errorf("what was handed in is %q now", all)
	}
	spoil(all)
	wantBag(t, b, "aaa")
}

func TestP406SendSharesNothing(t *testing.T) {
	b := made(t, 2)
	first, all := roomy("a")
	second, other := roomy("b")
	b.Send(first)
	b.Send(second)
	at, _ := b.At(0)
	out, _ := b.Deliver(1)
	spoil(at.Data)
	spoil(out.Data)
	if string(all) != "aspare" || string(other) != "bspare" {
		t.Errorf("what was handed in is %q, %q behind a change of what was answered", all, other)
	}
}

func TestP406AtIsNew(t *testing.T) {
	b := filled(t, 3, "abc")
	one, _ := b.At(1)
	two, _ := b.At(1)
	spoil(one.Data)
	if !same(two, letter("b")) {
		t.Errorf("two answers share memory: %q", two.Data)
	}
	wantBag(t, b, "abc")
	out, _ := b.Deliver(1)
	spoil(two.Data)
	if !same(out, letter("b")) {
		t.Errorf("an answer shares memory with a later one: %q", out.Data)
	}
}

func TestP406DeliverIsNew(t *testing.T) {
	b := filled(t, 4, "ab")
	b.Double(0)
	seen, _ := b.At(0)
	out, _ := b.Deliver(0)
	spoil(out.Data)
	if !same(seen, letter("a")) {
		t.Errorf("what At told is %q behind a change of what was delivered", seen.Data)
	}
	wantBag(t, b, "ba")
	kept, _ := b.Deliver(0)
	b.Send(letter("c"))
	b.Send(letter("d"))
	b.Move(0, 2)
	if !same(kept, letter("b")) {
		t.Errorf("what was delivered is %q behind further calls", kept.Data)
	}
}

// The letters in the bag have no memory in common, those that were doubled neither.
func TestP406Apart(t *testing.T) {
	b := filled(t, 6, "ab")
	b.Double(0)
	b.Double(2)
	b.Double(1)
	wantBag(t, b, "abaab")
	for _, rest := range []string{"baab", "aab", "ab", "b", ""} {
		out, _ := b.Deliver(0)
		spoil(out.Data)
		wantBag(t, b, rest)
	}
}

func TestP406TwoBags(t *testing.T) {
	one, two := made(t, 2), made(t, 3)
	l, all := roomy("a")
	one.Send(l)
	two.Send(l)
	two.Send(letter("b"))
	want(t, "Send", one.Send(letter("c")), api.OK)
	want(t, "Send", one.Send(letter("d")), api.ErrLost)
	want(t, "Send", two.Send(letter("e")), api.OK)
	out, _ := one.Deliver(0)
	spoil(out.Data)
	spoil(all)
	wantBag(t, one, "c")
	wantBag(t, two, "abe")
	two.Drop(0)
	two.Move(0, 1)
	wantBag(t, one, "c")
	wantBag(t, two, "eb")
}

// What one bag answers may be handed in at another: they have nothing in common behind it.
func TestP406Passed(t *testing.T) {
	one, two := filled(t, 2, "ab"), made(t, 2)
	l, _ := one.At(0)
	two.Send(l)
	m, _ := one.Deliver(1)
	two.Send(m)
	one.Send(m)
	spoil(l.Data)
	spoil(m.Data)
	wantBag(t, one, "ab")
	wantBag(t, two, "ab")
}
