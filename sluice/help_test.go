package sluice_test

import (
	"bytes"
	"reflect"
	"slices"
	"testing"

	"sluice/api"
	"sluice/cluster"
	"sluice/frame"
	"sluice/names"
	"sluice/sluice"
	"sluice/wire"
)

// dice: numbers that hang on its beginning alone.
type dice uint64

func (d *dice) roll(n int) int {
	*d = *d*6364136223846793005 + 1442695040888963407
	return int(uint64(*d) >> 33 % uint64(n))
}

func (d *dice) bytes(n int) []byte {
	b := make([]byte, n)
	for i := range b {
		b[i] = byte(d.roll(256))
	}
	return b
}

// line is the config of chapter 15's examples as a text, with its line end.
const line = "replicas 2 window 2 resend 2 timeout 20 queue 4 cache 2 counters 2 holds 2 sessions 4 bag 50\n"

func config() api.Config {
	return api.Config{Replicas: 2, Window: 2, Resend: 2, Timeout: 20, Queue: 4, Cache: 2, Counters: 2, Holds: 2, Sessions: 4, Bag: 50}
}

// home is the replica at which k is at home, of two, and the other one; the session of each has its number.
func home() (h, o int) {
	h = names.Home("k", 2)
	return h, 1 - h
}

// call lets the session that is called as its replica ask for something about k.
func call(me, id, kind int, ab ...int) api.Step {
	return api.Step{Kind: api.StepCall, Replica: me, Call: api.Call{Session: me, Id: id}, Op: op(kind, "k", ab...)}
}

// op has A and B, as far as they are said.
func op(kind int, name string, ab ...int) api.Op {
	o := api.Op{Kind: kind, Name: name}
	if len(ab) > 0 {
		o.A = ab[0]
	}
	if len(ab) > 1 {
		o.B = ab[1]
	}
	return o
}

func tick(me int) api.Step { return api.Step{Kind: api.StepTick, Replica: me} }

func deliver(i int) api.Step { return api.Step{Kind: api.StepDeliver, I: i} }

func drop(i int) api.Step { return api.Step{Kind: api.StepDrop, I: i} }

func rights(down, up int) api.Rights { return api.Rights{Down: down, Up: up} }

func epochOf(round, rank int) api.Epoch { return api.Epoch{Round: round, Rank: rank} }

// from is a frame from nowhere that opens, as if a replica had sent it as what the other one awaits.
func from(t *testing.T, me, to, seq int, m api.Msg) api.Step {
	t.Helper()
	data, e := wire.Encode(m)
	if e != api.OK {
		t.Fatalf("no message: %+v", m)
	}
	return api.Step{Kind: api.StepFrame, Replica: to, Data: sealed(t, api.Segment{From: me, To: to, Seq: seq, Data: data})}
}

func sealed(t *testing.T, s api.Segment) []byte {
	t.Helper()
	payload, e := wire.EncodeSegment(s)
	if e != api.OK {
		t.Fatalf("no segment: %+v", s)
	}
	data, e := frame.Seal(payload)
	if e != api.OK {
		t.Fatalf("no frame: %d bytes", len(payload))
	}
	return data
}

// behind is one list of steps behind another.
func behind(lists ...[]api.Step) []api.Step { return slices.Concat(lists...) }

func made(t *testing.T, c api.Config) *cluster.Cluster {
	t.Helper()
	all, e := cluster.New(c)
	if e != api.OK {
		t.Fatalf("%+v: %d", c, e)
	}
	return all
}

// ran plays steps that must not be refused as a whole.
func ran(t *testing.T, c api.Config, steps []api.Step) []api.Answer {
	t.Helper()
	answers, e := cluster.Run(c, steps)
	if e != api.OK || len(answers) != len(steps) {
		t.Fatalf("Run of %d steps: %d, %d", len(steps), len(answers), e)
	}
	return answers
}

func sameStep(a, b api.Step) bool {
	same := bytes.Equal(a.Data, b.Data)
	a.Data, b.Data = nil, nil
	return same && reflect.DeepEqual(a, b)
}

// wantSettle asserts the very steps.
func wantSettle(t *testing.T, what string, c api.Config, steps []api.Step, want ...api.Step) {
	t.Helper()
	got, e := sluice.Settle(c, steps)
	if e != api.OK || !slices.EqualFunc(got, want, sameStep) {
		t.Errorf("%s: Settle: %d\n%+v\nwant\n%+v", what, e, got, want)
	}
}

// settled tells the steps that Settle tells, which must not be refused.
func settled(t *testing.T, c api.Config, steps []api.Step) []api.Step {
	t.Helper()
	further, e := sluice.Settle(c, steps)
	if e != api.OK {
		t.Fatalf("Settle: %d", e)
	}
	return further
}

// wantAudit asserts all rows.
func wantAudit(t *testing.T, what string, c api.Config, steps []api.Step, want ...[]int) {
	t.Helper()
	got, e := sluice.Audit(c, steps)
	if e != api.OK || !sameRows(got, want) {
		t.Errorf("%s: Audit: %d, %v, want %v", what, e, got, want)
	}
}

func sameRows(a, b [][]int) bool { return slices.EqualFunc(a, b, slices.Equal) }

func wantPlay(t *testing.T, what, text, want string) {
	t.Helper()
	if got := sluice.Play(text); got != want {
		t.Errorf("%s: Play: %q\nwant %q", what, got, want)
	}
}

// wantRefused: all of what takes a script of steps refuses it so.
func wantRefused(t *testing.T, what string, c api.Config, steps []api.Step, want api.Errno) {
	t.Helper()
	if l, e := sluice.Settle(c, steps); e != want || len(l) != 0 {
		t.Errorf("%s: Settle: %d steps, %d, want %d", what, len(l), e, want)
	}
	if l, e := sluice.Audit(c, steps); e != want || len(l) != 0 {
		t.Errorf("%s: Audit: %v, %d, want %d", what, l, e, want)
	}
}
