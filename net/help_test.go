package net_test

import (
	"bytes"
	"fmt"
	"math"
	"slices"
	"strings"
	"testing"

	"sluice/api"
	"sluice/net"
)

// dice: numbers that hang on its beginning alone.
type dice uint64

func (d *dice) roll(n int) int {
	*d = *d*6364136223846793005 + 1442695040888963407
	return int(uint64(*d) >> 33 % uint64(n))
}

func (d *dice) bytes(n int) []byte {
	b := make([]byte, n)
	for i := range b {
		b[i] = byte(d.roll(256))
	}
	return b
}

func made(t *testing.T, room int) *net.Bag {
	t.Helper()
	b, e := net.New(room)
	if e != api.OK || b == nil {
		t.Fatalf("New(%d): %v, %d", room, b, e)
	}
	return b
}

// letter tells one whose From and To go with its text, so that none of the three can be another letter's.
func letter(text string) api.Letter {
	l := api.Letter{From: 1000, To: -1000, Data: []byte(text)}
	for _, c := range l.Data {
		l.From += int(c)
		l.To -= int(c)
	}
	return l
}

// letters tells a letter for each byte.
func letters(texts string) []api.Letter {
	var list []api.Letter
	for i := range len(texts) {
		list = append(list, letter(texts[i:i+1]))
	}
	return list
}

// filled is a bag with a letter for each byte.
func filled(t *testing.T, room int, texts string) *net.Bag {
	t.Helper()
	b := made(t, room)
	for _, l := range letters(texts) {
		want(t, "Send", b.Send(l), api.OK)
	}
	return b
}

func want(t *testing.T, what string, got, want api.Errno) {
	t.Helper()
	if got != want {
		t.Errorf("%s: %d, want %d", what, got, want)
	}
}

func same(a, b api.Letter) bool {
	return a.From == b.From && a.To == b.To && bytes.Equal(a.Data, b.Data)
}

func isZero(l api.Letter) bool { return l.From == 0 && l.To == 0 && len(l.Data) == 0 }

func told(list []api.Letter) string {
	var out []string
	for _, l := range list {
		data := fmt.Sprintf("%q", l.Data)
		if len(l.Data) > 20 {
			data = fmt.Sprintf("%d bytes", len(l.Data))
		}
		out = append(out, fmt.Sprintf("%d>%d %s", l.From, l.To, data))
	}
	return "[" + strings.Join(out, ", ") + "]"
}

// all tells what At answers at each place.
func all(t *testing.T, b *net.Bag) []api.Letter {
	t.Helper()
	var list []api.Letter
	for i := range b.Len() {
		l, e := b.At(i)
		if e != api.OK {
			t.Errorf("At(%d) of %d letters: %d", i, b.Len(), e)
		}
		list = append(list, l)
	}
	return list
}

func wantAll(t *testing.T, b *net.Bag, want []api.Letter) {
	t.Helper()
	if got := all(t, b); !slices.EqualFunc(got, want, same) {
		t.Errorf("the bag is %s, want %s", told(got), told(want))
	}
}

// wantBag holds a bag of one-byte letters against their texts.
func wantBag(t *testing.T, b *net.Bag, texts string) {
	t.Helper()
	wantAll(t, b, letters(texts))
}

// outside tells places that a bag of so many letters doesn't have.
func outside(n int) []int {
	return []int{-1, -2, -n - 1, n, n + 1, api.MaxBag + 1, math.MaxInt, math.MinInt}
}
