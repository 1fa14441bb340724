package scene_test

import (
	"math"
	"reflect"
	"testing"

	"sluice/api"
	"sluice/scene"
)

func made(t *testing.T, room int) *scene.Scene {
	t.Helper()
	s, e := scene.New(room)
	if e != api.OK || s == nil {
		t.Fatalf("New(%d): %v, %d", room, s, e)
	}
	return s
}

// take takes a step that must be the scene's.
func take(t *testing.T, s *scene.Scene, x api.Step) api.Answer {
	t.Helper()
	a, taken := s.Do(x)
	if !taken {
		t.Errorf("%+v is left to others", x)
	}
	return a
}

func wantErr(t *testing.T, s *scene.Scene, x api.Step, want api.Errno) {
	t.Helper()
	if a := take(t, s, x); !reflect.DeepEqual(a, api.Answer{Err: want}) {
		t.Errorf("%+v: %+v, want %d", x, a, want)
	}
}

// wantBag asserts which letters there are, by the one byte of each.
func wantBag(t *testing.T, s *scene.Scene, want string) {
	t.Helper()
	a := take(t, s, api.Step{Kind: api.StepBag})
	var got []byte
	for _, l := range a.Bag {
		got = append(got, l.Data...)
	}
	if string(got) != want || !reflect.DeepEqual(a, api.Answer{Bag: a.Bag}) {
		t.Errorf("the bag: %+v, want %s", a, want)
	}
}

func letter(to int, c byte) api.Letter { return api.Letter{From: 0, To: to, Data: []byte{c}} }

// sent is a scene with these letters.
func sent(t *testing.T, room int, letters ...api.Letter) *scene.Scene {
	t.Helper()
	s := made(t, room)
	if a := s.CarryOut(api.Acts{Frames: letters}, api.OK); !reflect.DeepEqual(a, api.Answer{}) {
		t.Errorf("frames alone: %+v", a)
	}
	return s
}

func TestP1501Room(t *testing.T) {
	for _, room := range []int{math.MinInt64, -1, 0, api.MaxBag + 1, math.MaxInt64} {
		if s, e := scene.New(room); s != nil || e != api.ErrArg {
			t.Errorf("New(%d): %v, %d", room, s, e)
		}
	}
	for _, room := range []int{1, 2, api.MaxBag} {
		s := made(t, room)
		for range room + 1 {
			s.CarryOut(api.Acts{Frames: []api.Letter{letter(1, 'x')}}, api.OK)
		}
		if n := len(take(t, s, api.Step{Kind: api.StepBag}).Bag); n != room {
			t.Errorf("%d letters in a bag for %d", n, room)
		}
	}
}

// The steps of the frames and the witness are taken, whatever replica they name; all others are left to others.
func TestP1502WhoseSteps(t *testing.T) {
	own := map[int]bool{api.StepDrop: true, api.StepDouble: true, api.StepMove: true, api.StepBag: true, api.StepWitness: true}
	s := made(t, 3)
	for kind := -2; kind < 30; kind++ {
		a, taken := s.Do(api.Step{Kind: kind, Replica: kind * 7})
		if taken != own[kind] || !taken && !reflect.DeepEqual(a, api.Answer{}) {
			t.Errorf("the kind %d: %v, %+v", kind, taken, a)
		}
	}
}

func TestP1502BagSteps(t *testing.T) {
	s := sent(t, 4, letter(1, 'a'), letter(1, 'b'), letter(1, 'c'))
	wantErr(t, s, api.Step{Kind: api.StepMove, I: 0, J: 2}, api.OK)
	wantBag(t, s, "bca")
	wantErr(t, s, api.Step{Kind: api.StepMove, I: 0, J: 3}, api.ErrIndex)
	wantErr(t, s, api.Step{Kind: api.StepDouble, I: 1}, api.OK)
	wantBag(t, s, "bcac")
	wantErr(t, s, api.Step{Kind: api.StepDouble, I: 1}, api.ErrLost)
	wantErr(t, s, api.Step{Kind: api.StepDrop, I: 4}, api.ErrIndex)
	wantErr(t, s, api.Step{Kind: api.StepDrop, I: 2}, api.OK)
	wantBag(t, s, "bcc")
	wantErr(t, s, api.Step{Kind: api.StepDouble, I: -1}, api.ErrIndex)
}

// A letter is taken out, also one that is to nobody.
func TestP1502DeliverOut(t *testing.T) {
	s := sent(t, 9, letter(1, 'a'), letter(2, 'b'), letter(-1, 'c'), letter(0, 'd'))
	for _, i := range []int{-1, 4, math.MinInt64, math.MaxInt64} {
		if l, e := s.Deliver(i, 2); e != api.ErrIndex || !reflect.DeepEqual(l, api.Letter{}) {
			t.Errorf("Deliver(%d): %+v, %d", i, l, e)
		}
	}
	for range 2 {
		if l, e := s.Deliver(1, 2); e != api.ErrReplica || !reflect.DeepEqual(l, api.Letter{}) {
			t.Errorf("a letter to nobody: %+v, %d", l, e)
		}
	}
	wantBag(t, s, "ad")
	if l, e := s.Deliver(1, 2); e != api.OK || !reflect.DeepEqual(l, letter(0, 'd')) {
		t.Errorf("Deliver: %+v, %d", l, e)
	}
	wantBag(t, s, "a")
}

// Effects have the number of the step that was counted last; the replies and the error are answered, and nothing else is.
func TestP1502Acts(t *testing.T) {
	s := made(t, 2)
	one := api.Effect{Call: api.Call{Session: 1, Id: 2}, Op: api.Op{Kind: api.OpInc, Name: "k", A: 3}, Value: 4}
	two := api.Effect{Call: api.Call{Session: -1}, Op: api.Op{Kind: api.OpExpire, Name: "k", A: 16}}
	replies := []api.Reply{{Call: one.Call, Value: 5}}
	for range 3 {
		s.Do(api.Step{})
	}
	a := s.CarryOut(api.Acts{Replies: replies, Effects: []api.Effect{one, two}}, api.ErrDown)
	if !reflect.DeepEqual(a, api.Answer{Err: api.ErrDown, Replies: replies}) {
		t.Errorf("the answer: %+v", a)
	}
	wantErr(t, s, api.Step{Kind: api.StepDrop}, api.ErrIndex)
	s.Do(api.Step{Kind: api.StepTick})
	s.CarryOut(api.Acts{Effects: []api.Effect{two}}, api.OK)
	want := []api.Effect{one, two, two}
	want[0].Step, want[1].Step, want[2].Step = 3, 3, 5
	for range 2 {
		a = take(t, s, api.Step{Kind: api.StepWitness})
		if !reflect.DeepEqual(a, api.Answer{Witness: want}) {
			t.Errorf("the witness: %+v, want %+v", a, want)
		}
		for i := range a.Witness[:cap(a.Witness)] {
			a.Witness[:cap(a.Witness)][i].Value = 99
		}
	}
}

// What is handed in is not kept, and what is told is new memory.
func TestP1502SceneMemory(t *testing.T) {
	in := letter(1, 'a')
	s := sent(t, 3, in)
	in.Data[0] = '#'
	wantBag(t, s, "a")
	take(t, s, api.Step{Kind: api.StepDouble})
	bag := take(t, s, api.Step{Kind: api.StepBag}).Bag
	bag[0].Data[0] = '#'
	wantBag(t, s, "aa")
	effects := []api.Effect{{Value: 1}}
	s.CarryOut(api.Acts{Effects: effects}, api.OK)
	if effects[0].Step != 0 {
		t.Errorf("what was handed in has changed: %+v", effects)
	}
	effects[0].Value = 2
	if w := take(t, s, api.Step{Kind: api.StepWitness}).Witness; w[0].Value != 1 {
		t.Errorf("what was handed in is kept: %+v", w)
	}
}
