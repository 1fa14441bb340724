package fleet

import (
	"reflect"
	"testing"

	"sluice/api"
	"sluice/journal"
)

func made(t *testing.T) *Fleet {
	t.Helper()
	f, e := New(api.Config{Replicas: 2, Window: 2, Resend: 2, Timeout: 20, Queue: 4, Cache: 2, Counters: 2, Holds: 2, Sessions: 4, Bag: 50})
	if e != api.OK {
		t.Fatalf("New: %d", e)
	}
	return f
}

func want(t *testing.T, f *Fleet, s api.Step, want api.Answer) {
	t.Helper()
	if a := f.Do(s); !reflect.DeepEqual(a, want) {
		t.Errorf("%+v: %+v, want %+v", s, a, want)
	}
}

// A letter to nobody, which no replica sends: it is refused, and gone.
func TestP2302DeliverToNobody(t *testing.T) {
	f := made(t)
	for _, to := range []int{-1, 2, 1 << 40} {
		f.scene.CarryOut(api.Acts{Frames: []api.Letter{{From: 0, To: to, Data: []byte{1}}}}, api.OK)
		want(t, f, api.Step{Kind: api.StepDeliver}, api.Answer{Err: api.ErrReplica})
		want(t, f, api.Step{Kind: api.StepBag}, api.Answer{})
	}
	for me, m := range f.members {
		if n := m.disk.Writes(); n != 0 {
			t.Errorf("%d has taken something: %d writes", me, n)
		}
	}
}

// A record that is no input, which no keeper writes: the replica does not come up, and what it was to be armed with is
// forgotten; the witness and the other one are as they were.
func TestP2302RestartFails(t *testing.T) {
	f := made(t)
	for id := range 3 {
		f.Do(api.Step{Kind: api.StepRequest, Replica: 1})
		f.Do(api.Step{Kind: api.StepCall, Replica: 1, Call: api.Call{Session: 1, Id: id + 1}, Op: api.Op{Kind: api.OpCreate, Name: "k", A: 5}})
	}
	j, _ := journal.Open(f.members[1].disk)
	if e := j.Append([]byte{0}); e != api.OK {
		t.Fatalf("Append: %d", e)
	}
	see, witness := f.Do(api.Step{Kind: api.StepSee}), f.Do(api.Step{Kind: api.StepWitness})
	want(t, f, api.Step{Kind: api.StepCrash, Replica: 1}, api.Answer{})
	for range 2 {
		want(t, f, api.Step{Kind: api.StepArm, Replica: 1, J: 512}, api.Answer{})
		want(t, f, api.Step{Kind: api.StepRestart, Replica: 1}, api.Answer{Err: api.ErrInput})
		want(t, f, api.Step{Kind: api.StepSee, Replica: 1}, api.Answer{})
		want(t, f, api.Step{Kind: api.StepTick, Replica: 1}, api.Answer{Err: api.ErrDown})
		want(t, f, api.Step{Kind: api.StepCrash, Replica: 1}, api.Answer{Err: api.ErrDown})
		if m := f.members[1]; m.disk.IsOn() || m.fuse != (fuse{}) {
			t.Errorf("the disk is on: %v, its fuse %+v", m.disk.IsOn(), m.fuse)
		}
	}
	want(t, f, api.Step{Kind: api.StepSee}, see)
	want(t, f, api.Step{Kind: api.StepWitness}, witness)
}

// Where such a record lies on the disk and the power fails, there are no further effects.
func TestP2302GoingDownFails(t *testing.T) {
	f := made(t)
	f.Do(api.Step{Kind: api.StepCall, Replica: 1, Call: api.Call{Session: 1, Id: 1}, Op: api.Op{Kind: api.OpRead, Name: "b"}})
	f.Do(api.Step{Kind: api.StepCall, Replica: 1, Call: api.Call{Session: 1, Id: 2}, Op: api.Op{Kind: api.OpRead, Name: "k"}})
	m := f.members[1]
	sector := make([]byte, api.SectorSize)
	for _, at := range []int{0, api.SectorSize - 8} {
		copy(sector[at:], []byte{1, 0, 0, 0, 0, 1, 0, 2})
	}
	sector[8] = 9
	if e := m.disk.Write(0, sector); e != api.OK {
		t.Fatalf("Write: %d", e)
	}
	witness := f.Do(api.Step{Kind: api.StepWitness})
	if len(witness.Witness) == 0 {
		t.Error("no effect is to be counted")
	}
	want(t, f, api.Step{Kind: api.StepArm, Replica: 1, J: 512}, api.Answer{})
	want(t, f, api.Step{Kind: api.StepTick, Replica: 1}, api.Answer{Err: api.ErrDown})
	want(t, f, api.Step{Kind: api.StepSee, Replica: 1}, api.Answer{})
	want(t, f, api.Step{Kind: api.StepWitness}, witness)
}
