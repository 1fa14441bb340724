// Package scene: what the steps of a script act on beside the replicas: the frames under way, and the witness: see
// DOC.md, chapter 15. Clusters and fleets differ in their replicas alone.
package scene

import (
	"slices"

	"sluice/api"
	"sluice/net"
)

// Scene is the frames that are under way, and all effects so far.
type Scene struct {
	bag     *net.Bag
	steps   int          // that were taken, refused ones too
	witness []api.Effect // in their order
}

// New makes a scene ahead of its first step, with room for so many frames. The error is that of net.New.
func New(room int) (*Scene, api.Errno) {
	bag, e := net.New(room)
	if e != api.OK {
		return nil, e
	}
	return &Scene{bag: bag}, api.OK
}

// way is how steps of a kind are taken.
type way struct {
	take func(s *Scene, x api.Step) api.Answer
}

// ways tells of each kind of a step that no replica has to do with how it is taken.
func ways() map[int]way {
	return map[int]way{
		api.StepDrop:    {take: (*Scene).drop},
		api.StepDouble:  {take: (*Scene).double},
		api.StepMove:    {take: (*Scene).move},
		api.StepBag:     {take: (*Scene).tellBag},
		api.StepWitness: {take: (*Scene).tellWitness},
	}
}

// Do counts a step, and takes it, if it has to do with the frames or the witness alone; false: it is left to others.
func (s *Scene) Do(x api.Step) (api.Answer, bool) {
	s.steps++
	w, there := ways()[x.Kind]
	if !there {
		return api.Answer{}, false
	}
	return w.take(s, x), true
}

func (s *Scene) drop(x api.Step) api.Answer { return api.Answer{Err: s.bag.Drop(x.I)} }

func (s *Scene) double(x api.Step) api.Answer { return api.Answer{Err: s.bag.Double(x.I)} }

func (s *Scene) move(x api.Step) api.Answer { return api.Answer{Err: s.bag.Move(x.I, x.J)} }

func (s *Scene) tellBag(api.Step) api.Answer {
	var letters []api.Letter
	for i := range s.bag.Len() {
		l, _ := s.bag.At(i)
		letters = append(letters, l)
	}
	return api.Answer{Bag: letters}
}

func (s *Scene) tellWitness(api.Step) api.Answer {
	return api.Answer{Witness: slices.Clone(s.witness)}
}

// Deliver takes the letter at i out, which is to go to one of so many replicas: api.ErrIndex, if there is none,
// api.ErrReplica, if it is to nobody: then it is gone.
func (s *Scene) Deliver(i, replicas int) (api.Letter, api.Errno) {
	l, e := s.bag.Deliver(i)
	switch {
	case e != api.OK:
		return api.Letter{}, e
	case l.To < 0 || l.To >= replicas:
		return api.Letter{}, api.ErrReplica
	}
	return l, api.OK
}

// CarryOut does what a replica asks for in the step that Do has counted, and answers the rest.
func (s *Scene) CarryOut(acts api.Acts, e api.Errno) api.Answer {
	for _, l := range acts.Frames {
		s.bag.Send(l) // one that a full bag refuses is lost, as any frame may be
	}
	for _, happened := range acts.Effects {
		happened.Step = s.steps
		s.witness = append(s.witness, happened)
	}
	return api.Answer{Err: e, Replies: acts.Replies}
}
