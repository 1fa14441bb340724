package sluice_test

import (
	"bytes"
	"slices"
	"strings"
	"testing"

	"sluice/api"
	"sluice/sluice"
)

// spare is the same steps, each Data and the list itself with spare room that is marked.
func spare(steps []api.Step) []api.Step {
	list := make([]api.Step, len(steps), len(steps)+5)
	copy(list, steps)
	for i := range list {
		data := append(bytes.Clone(list[i].Data), 0xA5, 0xA5, 0xA5)
		list[i].Data = data[:len(data)-3]
	}
	for i := range list[:cap(list)][len(list):] {
		list[:cap(list)][len(list)+i] = api.Step{Kind: 77, Data: []byte{1}}
	}
	return list
}

// whole is all of a list, spare room included, in memory of its own.
func whole(steps []api.Step) []api.Step {
	list := slices.Clone(steps[:cap(steps)])
	for i, s := range list {
		list[i].Data = bytes.Clone(s.Data[:cap(s.Data)])
	}
	return list
}

// What is handed in stays as it is, spare room included.
func TestP1902NothingChanged(t *testing.T) {
	d := dice(19022)
	for range 40 {
		c, steps, _ := scriptOf(t, d.bytes(d.roll(1500)), true)
		steps = spare(fewLooks(steps))
		before := whole(steps)
		settled(t, c, steps)
		if !slices.EqualFunc(whole(steps), before, sameStep) {
			t.Fatalf("Settle has changed its steps")
		}
		sluice.Audit(c, steps)
		if !slices.EqualFunc(whole(steps), before, sameStep) {
			t.Fatalf("Audit has changed its steps")
		}
	}
}

// What is answered hangs on the arguments alone, is new memory each time, and no two rows have any in common.
func TestP1903NewMemory(t *testing.T) {
	d := dice(19032)
	for range 40 {
		c, steps, _ := scriptOf(t, d.bytes(200+d.roll(1500)), true)
		steps = fewLooks(steps)
		first, second := settled(t, c, steps), settled(t, c, steps)
		kept := whole(second)
		for i := range first[:cap(first)] {
			first[:cap(first)][i] = api.Step{Kind: 99}
		}
		if !slices.EqualFunc(whole(second), kept, sameStep) || !slices.EqualFunc(settled(t, c, steps), second, sameStep) {
			t.Fatalf("Settle tells other steps")
		}
		rows, _ := sluice.Audit(c, steps)
		again, _ := sluice.Audit(c, steps)
		for i, r := range rows {
			if !sameRows(rows[i:], again[i:]) {
				t.Fatalf("%v, want %v", rows, again)
			}
			for k := range r[:cap(r)] {
				r[:cap(r)][k] = -1
			}
		}
	}
}

// The text that is told is the same each time, also where the text that is played is a piece of a longer one.
func TestP1901Again(t *testing.T) {
	text := line + "call 0 0 1 create k 10 4\ncall 1 1 1 read k\ndeliver 0\nsee 0\nsee 1\nbag\nwitness\n"
	first := sluice.Play(text)
	longer := strings.Repeat("x", 100) + text + strings.Repeat("y", 100)
	if second := sluice.Play(longer[100 : 100+len(text)]); first != second || !strings.Contains(first, "letter") {
		t.Errorf("%q\n%q", first, second)
	}
}
