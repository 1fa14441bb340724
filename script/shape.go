package script

import "sluice/api"

// family is what a word is one of.
type family int

const (
	ofStep family = iota
	ofOp
)

// shape is a word, the kind that it stands for, and what follows it: a letter for each part, as in the chapter's
// tables, and O for a word of ofOp with what follows that one.
type shape struct {
	of    family
	word  string
	kind  int
	parts string
}

// No word of a family is the beginning of another one: so a reader knows a word as soon as it has its last byte.
var shapes = [26]shape{
	{ofStep, "call", api.StepCall, "RSNO"},
	{ofStep, "deliver", api.StepDeliver, "I"},
	{ofStep, "drop", api.StepDrop, "I"},
	{ofStep, "double", api.StepDouble, "I"},
	{ofStep, "move", api.StepMove, "IJ"},
	{ofStep, "tick", api.StepTick, "R"},
	{ofStep, "frame", api.StepFrame, "RD"},
	{ofStep, "request", api.StepRequest, "RD"},
	{ofStep, "see", api.StepSee, "R"},
	{ofStep, "bag", api.StepBag, ""},
	{ofStep, "witness", api.StepWitness, ""},
	{ofStep, "crash", api.StepCrash, "R"},
	{ofStep, "arm", api.StepArm, "RIJ"},
	{ofStep, "restart", api.StepRestart, "R"},
	{ofStep, "image", api.StepImage, "R"},
	{ofOp, "create", api.OpCreate, "KAB"},
	{ofOp, "inc", api.OpInc, "KA"},
	{ofOp, "dec", api.OpDec, "KA"},
	{ofOp, "hold", api.OpHold, "KAB"},
	{ofOp, "commit", api.OpCommit, "KA"},
	{ofOp, "release", api.OpRelease, "KA"},
	{ofOp, "read", api.OpRead, "K"},
	{ofOp, "take", api.OpTake, "KAB"},
	{ofOp, "reset", api.OpReset, "KA"},
	{ofOp, "recap", api.OpRecap, "KA"},
	{ofOp, "look", api.OpLook, "K"},
}

// shapeOf tells how a kind is written; false: it is in no table.
func shapeOf(of family, kind int) (shape, bool) {
	for _, s := range shapes {
		if s.of == of && s.kind == kind {
			return s, true
		}
	}
	return shape{}, false
}

// kindOf tells where a step has the kind that a word of this family says.
func kindOf(s *api.Step, of family) *int {
	if of == ofOp {
		return &s.Op.Kind
	}
	return &s.Kind
}

// numberOf tells where a step has the number of a part.
func numberOf(s *api.Step, part rune) *int {
	switch part {
	case 'R':
		return &s.Replica
	case 'S':
		return &s.Call.Session
	case 'N':
		return &s.Call.Id
	case 'I':
		return &s.I
	case 'J':
		return &s.J
	case 'A':
		return &s.Op.A
	}
	return &s.Op.B
}

// isTold tells whether there is a line for a step that tells all of it.
func isTold(s api.Step) bool {
	if !strip(&s, ofStep) {
		return false
	}
	return s.Replica == 0 && s.Call == api.Call{} && s.Op == api.Op{} && s.I == 0 && s.J == 0 && len(s.Data) == 0
}

// strip makes zero what the shape of a step's kind tells; false: there is none.
func strip(s *api.Step, of family) bool {
	kind := kindOf(s, of)
	sh, there := shapeOf(of, *kind)
	*kind = 0
	for _, part := range sh.parts {
		switch part {
		case 'O':
			there = strip(s, ofOp)
		case 'K':
			s.Op.Name = ""
		case 'D':
			s.Data = nil
		default:
			*numberOf(s, part) = 0
		}
	}
	return there
}

var configWords = [10]string{
	"replicas", "window", "resend", "timeout", "queue", "cache", "counters", "holds", "sessions", "bag",
}

// configNumbers tells where a config has the numbers of configWords.
func configNumbers(c *api.Config) [10]*int {
	return [10]*int{
		&c.Replicas, &c.Window, &c.Resend, &c.Timeout, &c.Queue, &c.Cache, &c.Counters, &c.Holds, &c.Sessions, &c.Bag,
	}
}
