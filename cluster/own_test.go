package cluster_test

import (
	"bytes"
	"reflect"
	"slices"
	"testing"

	"sluice/api"
	"sluice/cluster"
)

// roomy is the same bytes with spare room behind them, filled.
func roomy(data []byte) []byte {
	b := append(bytes.Clone(data), bytes.Repeat([]byte{0xA5}, 40)...)
	return b[:len(data)]
}

// spoilIn overwrites bytes that were handed in, spare room included; before that they must be as they were.
func spoilIn(t *testing.T, b, was []byte) {
	t.Helper()
	whole := b[:cap(b)]
	if !bytes.Equal(b, was) || slices.ContainsFunc(whole[len(b):len(b)+40], func(c byte) bool { return c != 0xA5 }) {
		t.Errorf("what was handed in has changed: % x", whole)
	}
	spoilBytes(b)
}

func spoilBytes(b []byte) {
	b = b[:cap(b)]
	for i := range b {
		b[i] ^= 0xFF
	}
}

// spoilAnswer overwrites all that an answer has, the spare room of its lists too.
func spoilAnswer(a api.Answer) {
	for _, l := range a.Bag {
		spoilBytes(l.Data)
	}
	fill(a.Bag, api.Letter{From: 99})
	fill(a.Replies, api.Reply{Value: 99})
	fill(a.Witness, api.Effect{Value: 99})
	for _, k := range a.Sight.Stocks {
		fill(k.Live, epochOf(99, 1))
	}
	fill(a.Sight.Stocks, api.Stock{Name: "z"})
	for _, box := range a.Sight.Out {
		for _, m := range box {
			fill(m.Views, api.View{Name: "z"})
		}
		fill(box, api.Msg{Kind: 99})
	}
	for _, list := range a.Sight.Under {
		for _, s := range list {
			spoilBytes(s.Data)
		}
		fill(list, api.Segment{Seq: 99})
	}
	fill(a.Sight.Out, []api.Msg{{Kind: 99}})
	fill(a.Sight.Under, []api.Segment{{Seq: 99}})
	fill(a.Sight.Next, 99)
	fill(a.Sight.Calls, id(99, 99))
}

func fill[T any](list []T, with T) {
	list = list[:cap(list)]
	for i := range list {
		list[i] = with
	}
}

// looks are steps that see all there is.
func looks(c api.Config) []api.Step {
	list := []api.Step{{Kind: api.StepBag}, {Kind: api.StepWitness}}
	for me := range c.Replicas {
		list = append(list, api.Step{Kind: api.StepSee, Replica: me})
	}
	return list
}

// Spoiling what was answered, and what was handed in, changes no later answer.
func TestP1502NewMemory(t *testing.T) {
	d := dice(1504)
	for range 60 {
		c, steps, _ := script(t, d.bytes(2000))
		clean, spoiled := made(t, c), made(t, c)
		for i, step := range steps {
			for _, s := range append([]api.Step{step}, looks(c)...) {
				want := clean.Do(s)
				was := s.Data
				s.Data = roomy(was)
				got := spoiled.Do(s)
				if !sameAnswer(got, want) {
					t.Fatalf("the step %d, %+v:\n%+v\nwant\n%+v", i+1, step, got, want)
				}
				spoilIn(t, s.Data, was)
				spoilAnswer(got)
			}
		}
	}
}

// No list of an answer of Run shares memory with another one, of the same answer or of any other.
func TestP1503NewMemory(t *testing.T) {
	d := dice(1505)
	for range 20 {
		c, steps, _ := script(t, d.bytes(700))
		steps = append(steps[:min(len(steps), 50)], looks(c)...)
		kept := slices.Clone(steps)
		for i := range steps {
			kept[i].Data = roomy(steps[i].Data)
		}
		want, e := cluster.Run(c, steps)
		got, f := cluster.Run(c, kept)
		if e != api.OK || f != api.OK || len(got) != len(want) {
			t.Fatalf("Run: %d, %d", e, f)
		}
		for i := range got {
			spoilIn(t, kept[i].Data, steps[i].Data)
			if !sameAnswer(got[i], want[i]) {
				t.Fatalf("the step %d, %+v:\n%+v\nwant\n%+v", i+1, steps[i], got[i], want[i])
			}
			spoilAnswer(got[i])
		}
	}
}

// Two looks at once, of one cluster, have nothing in common either.
func TestP1502TwoLooks(t *testing.T) {
	s, _, o := fourth(t)
	s.call(o, 3, api.OpRead)
	for _, look := range looks(s.c) {
		one, two, three := s.do(look), s.do(look), s.do(look)
		spoilAnswer(one)
		if !reflect.DeepEqual(two, three) {
			t.Errorf("two answers to %+v share memory: %+v\nwant %+v", look, two, three)
		}
	}
}

// Two clusters have nothing in common.
func TestP1501TwoClusters(t *testing.T) {
	one, two := staged(t, config()), staged(t, config())
	h, o := home()
	fresh := two.scene()
	one.call(h, 1, api.OpCreate, 10, 4)
	one.call(o, 1, api.OpRead)
	one.tick(h)
	one.do(api.Step{Kind: api.StepFrame, Replica: h})
	if now := two.scene(); !reflect.DeepEqual(now, fresh) {
		t.Errorf("the other one: %+v", now)
	}
	two.wantAnswer("the other one", two.call(h, 1, api.OpRead), api.OK, reply(id(h, 1), api.ErrNone, 0))
	two.wantWitness("the other one", effect(two.step, id(h, 1), op(api.OpRead, "k"), api.ErrNone, 0))
}
