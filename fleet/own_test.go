package fleet_test

import (
	"bytes"
	"reflect"
	"slices"
	"testing"

	"sluice/api"
	"sluice/fleet"
)

// roomy is the same bytes with spare room behind them, filled.
func roomy(data []byte) []byte {
	b := append(bytes.Clone(data), bytes.Repeat([]byte{0xA5}, 40)...)
	return b[:len(data)]
}

// spoilIn overwrites bytes that were handed in, spare room included; before that they must be as they were.
func spoilIn(t *testing.T, b, was []byte) {
	t.Helper()
	whole := b[:cap(b)]
	if !bytes.Equal(b, was) || slices.ContainsFunc(whole[len(b):len(b)+40], func(c byte) bool { return c != 0xA5 }) {
		t.Errorf("what was handed in has changed: % x", whole)
	}
	spoilBytes(b)
}

func spoilBytes(b []byte) {
	b = b[:cap(b)]
	for i := range b {
		b[i] ^= 0xFF
	}
}

// spoilAnswer overwrites all that an answer has, the spare room of its lists too.
func spoilAnswer(a api.Answer) {
	for _, l := range a.Bag {
		spoilBytes(l.Data)
	}
	spoilBytes(a.Image)
	fill(a.Bag, api.Letter{From: 99})
	fill(a.Replies, api.Reply{Value: 99})
	fill(a.Witness, api.Effect{Value: 99})
	for _, k := range a.Sight.Stocks {
		fill(k.Live, api.Epoch{Round: 99})
	}
	fill(a.Sight.Stocks, api.Stock{Name: "z"})
	for _, box := range a.Sight.Out {
		for _, m := range box {
			fill(m.Views, api.View{Name: "z"})
		}
		fill(box, api.Msg{Kind: 99})
	}
	for _, list := range a.Sight.Under {
		for _, s := range list {
			spoilBytes(s.Data)
		}
		fill(list, api.Segment{Seq: 99})
	}
	fill(a.Sight.Out, []api.Msg{{Kind: 99}})
	fill(a.Sight.Under, []api.Segment{{Seq: 99}})
	fill(a.Sight.Next, 99)
	fill(a.Sight.Calls, id(99, 99))
}

func fill[T any](list []T, with T) {
	list = list[:cap(list)]
	for i := range list {
		list[i] = with
	}
}

// Spoiling what was answered, and what was handed in, changes no later answer.
func TestP2302NewMemory(t *testing.T) {
	d := dice(2304)
	for range 12 {
		p, steps, _ := script(t, d.bytes(800), 0)
		clean, spoiled := staged(t, p.c), staged(t, p.c)
		for i, step := range steps {
			list := []api.Step{step}
			if i%3 == 0 {
				list = append(list, looks(p.c)...)
			}
			for _, s := range list {
				want := clean.do(s)
				was := s.Data
				s.Data = roomy(was)
				got := spoiled.do(s)
				if !sameAnswer(got, want) {
					t.Fatalf("the step %d, %+v:\n%+v\nwant\n%+v", i+1, step, got, want)
				}
				spoilIn(t, s.Data, was)
				spoilAnswer(got)
			}
		}
	}
}

// No list of an answer of Run shares memory with another one, of the same answer or of any other.
func TestP2303NewMemory(t *testing.T) {
	d := dice(2305)
	for range 15 {
		p, steps, _ := script(t, d.bytes(500), 0)
		steps = append(steps[:min(len(steps), 50)], looks(p.c)...)
		kept := slices.Clone(steps)
		for i := range steps {
			kept[i].Data = roomy(steps[i].Data)
		}
		want, e := fleet.Run(p.c, steps)
		got, f := fleet.Run(p.c, kept)
		if e != api.OK || f != api.OK || len(got) != len(want) {
			t.Fatalf("Run: %d, %d", e, f)
		}
		for i := range got {
			spoilIn(t, kept[i].Data, steps[i].Data)
			if !sameAnswer(got[i], want[i]) {
				t.Fatalf("the step %d, %+v:\n%+v\nwant\n%+v", i+1, steps[i], got[i], want[i])
			}
			spoilAnswer(got[i])
		}
	}
}

// Two looks at once, of one fleet, have nothing in common either, whether its replicas are up or not.
func TestP2302TwoLooks(t *testing.T) {
	s, h, o := begun(t)
	s.call(o, 1, api.OpRead)
	s.tick(h)
	for range 2 {
		for _, look := range looks(s.c) {
			one, two, three := s.do(look), s.do(look), s.do(look)
			spoilAnswer(one)
			if !reflect.DeepEqual(two, three) {
				t.Errorf("two answers to %+v share memory", look)
			}
		}
		s.crash(o)
	}
}

// Two fleets have nothing in common.
func TestP2301TwoFleets(t *testing.T) {
	one, two := staged(t, config()), staged(t, config())
	h, o := home()
	fresh := two.view()
	one.call(h, 1, api.OpCreate, 10, 4)
	one.call(o, 1, api.OpRead)
	one.tick(h)
	one.arm(o, 0, 512)
	one.frame(h, nil)
	one.crash(h)
	two.wantView("the other one", fresh)
	two.wantAnswer("the other one", two.call(h, 1, api.OpRead), api.OK, reply(id(h, 1), api.ErrNone, 0))
	two.wantWitness("the other one", effect(two.step, id(h, 1), op(api.OpRead, "k"), api.ErrNone, 0))
	two.wantAnswer("the other one", two.tick(o), api.OK)
}
