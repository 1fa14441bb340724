package net

import (
	"testing"

	"sluice/api"
)

// What was taken out is gone: the list's spare room has no letter that is none any more, of which no call could tell.
func TestP404SpareRoom(t *testing.T) {
	b, _ := New(8)
	for i := range 8 {
		b.Send(api.Letter{From: i + 1, To: i + 1, Data: []byte{byte(i)}})
	}
	b.Drop(7)
	b.Deliver(0)
	b.Drop(2)
	b.Move(0, 3)
	b.Move(4, 1)
	b.Drop(1)
	if b.Len() != 4 {
		t.Fatalf("%d letters", b.Len())
	}
	for i, l := range b.letters[len(b.letters):cap(b.letters)] {
		if l.From != 0 || l.To != 0 || l.Data != nil {
			t.Errorf("the spare room has %v at %d", l, i)
		}
	}
}
