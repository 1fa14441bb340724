package script_test

import (
	"fmt"
	"slices"
	"strings"
	"testing"

	"sluice/api"
	"sluice/script"
)

func TestP1806Whole(t *testing.T) {
	text, steps := line, []api.Step{}
	for _, x := range lines {
		text, steps = text+x.text+"\n", append(steps, x.step)
	}
	wantPrint(t, config(), steps, text)
	slices.Reverse(steps)
	back := strings.SplitAfter(text[len(line):], "\n")
	slices.Reverse(back)
	wantPrint(t, config(), steps, line+strings.Join(back, ""))
	wantPrint(t, api.Config{}, nil, configLine(api.Config{}))
	wantPrint(t, config(), []api.Step{{Kind: api.StepBag, Data: []byte{}}, {Kind: api.StepFrame, Data: []byte{}}}, line+"bag\nframe 0 -\n")
}

// Kinds that are in no table: of steps, and of a call's op.
func TestP1806NoKind(t *testing.T) {
	for kind := -3; kind < 40; kind++ {
		if kind < api.StepCall || kind > api.StepImage {
			wantNoPrint(t, []api.Step{{Kind: kind}}, api.ErrArg)
			wantNoPrint(t, []api.Step{{Kind: api.StepBag}, {Kind: kind, Op: api.Op{Kind: api.OpRead}}}, api.ErrArg)
		}
		if kind < api.OpCreate || kind > api.OpLook {
			wantNoPrint(t, []api.Step{call(0, 0, 0, kind, "k", 0, 0)}, api.ErrArg)
			wantNoPrint(t, []api.Step{call(0, 0, 0, kind, "", 0, 0), {Kind: api.StepBag}}, api.ErrArg)
		}
	}
}

// fields: each field of a step, by the letter that the chapter's tables have for it, and how it is set.
var fields = map[string]func(s *api.Step){
	"R": func(s *api.Step) { s.Replica = -1 },
	"S": func(s *api.Step) { s.Call.Session = -1 },
	"N": func(s *api.Step) { s.Call.Id = 1 },
	"O": func(s *api.Step) { s.Op.Kind = api.OpRead },
	"K": func(s *api.Step) { s.Op.Name = "k" },
	"A": func(s *api.Step) { s.Op.A = 1 },
	"B": func(s *api.Step) { s.Op.B = -1 },
	"I": func(s *api.Step) { s.I = 1 },
	"J": func(s *api.Step) { s.J = -1 },
	"D": func(s *api.Step) { s.Data = []byte{0} },
}

// wantFields: of a step one field more is refused, just if its line does not tell it.
func wantFields(t *testing.T, s api.Step, told string) {
	t.Helper()
	for letter, set := range fields {
		x := s
		set(&x)
		if !strings.Contains(told, letter) {
			wantNoPrint(t, []api.Step{x}, api.ErrArg)
		} else if _, e := script.Print(config(), []api.Step{x}); e != api.OK {
			t.Errorf("Print(%+v): %d", x, e)
		}
	}
}

func TestP1806FieldsNotTold(t *testing.T) {
	for kind, told := range map[int]string{
		api.StepDeliver: "I", api.StepDrop: "I", api.StepDouble: "I", api.StepMove: "IJ", api.StepTick: "R", api.StepFrame: "RD", api.StepRequest: "RD", api.StepSee: "R",
		api.StepBag: "", api.StepWitness: "", api.StepCrash: "R", api.StepArm: "RIJ", api.StepRestart: "R", api.StepImage: "R",
	} {
		wantFields(t, api.Step{Kind: kind}, told)
	}
	for kind, told := range map[int]string{
		api.OpCreate: "KAB", api.OpInc: "KA", api.OpDec: "KA", api.OpHold: "KAB", api.OpCommit: "KA", api.OpRelease: "KA", api.OpRead: "K", api.OpTake: "KAB",
		api.OpReset: "KA", api.OpRecap: "KA", api.OpLook: "K",
	} {
		wantFields(t, call(0, 0, 0, kind, "", 0, 0), "RSNO"+told)
	}
}

// filled tells a frame step whose script has just so many bytes.
func filled(length int) api.Step {
	n := length - len(line) - len("frame 0 \n")
	return api.Step{Kind: api.StepFrame, Data: []byte(strings.Repeat("a", n))}
}

func TestP1806TooManyBytes(t *testing.T) {
	s, e := script.Print(config(), []api.Step{filled(api.MaxText)})
	if e != api.OK || len(s) != api.MaxText {
		t.Errorf("as many bytes as there may be: %d, %d", len(s), e)
	}
	wantNoPrint(t, []api.Step{filled(api.MaxText + 1)}, api.ErrLong)
	wantNoPrint(t, []api.Step{filled(api.MaxText), {Kind: api.StepBag}}, api.ErrLong)
	wantNoPrint(t, []api.Step{{Kind: api.StepRequest, Data: make([]byte, api.MaxText/3)}}, api.ErrLong)
	wantNoPrint(t, []api.Step{{Kind: api.StepRequest, Data: make([]byte, 10*api.MaxText)}}, api.ErrLong)
	wantNoPrint(t, []api.Step{call(0, 0, 0, api.OpRead, strings.Repeat("k", api.MaxText), 0, 0)}, api.ErrLong)
	few := api.Step{Kind: api.StepFrame, Data: make([]byte, 1000)}
	wantNoPrint(t, slices.Repeat([]api.Step{few}, 349), api.ErrLong)
	if s, e := script.Print(config(), slices.Repeat([]api.Step{few}, 348)); e != api.OK || len(s) != len(line)+348*3009 {
		t.Errorf("%d bytes: %d", len(s), e)
	}
	most := slices.Repeat([]api.Step{{Kind: api.StepFrame, Data: make([]byte, api.MaxText)}}, api.MaxSteps)
	wantNoPrint(t, most, api.ErrLong)
}

// Too many steps count first, then a wrong one, then too many bytes.
func TestP1806Order(t *testing.T) {
	bags := slices.Repeat([]api.Step{{Kind: api.StepBag}}, api.MaxSteps)
	wantPrint(t, config(), bags, line+strings.Repeat("bag\n", api.MaxSteps))
	wantNoPrint(t, append(bags, api.Step{Kind: api.StepBag}), api.ErrLong)
	wantNoPrint(t, append(bags, api.Step{}), api.ErrLong)
	wantNoPrint(t, make([]api.Step, api.MaxSteps+1), api.ErrLong)
	wantNoPrint(t, make([]api.Step, api.MaxSteps), api.ErrArg)
	wantNoPrint(t, []api.Step{filled(api.MaxText + 1), {}}, api.ErrArg)
	wantNoPrint(t, []api.Step{{}, filled(api.MaxText + 1)}, api.ErrArg)
	wantNoPrint(t, []api.Step{{Kind: api.StepBag, Data: make([]byte, api.MaxText+1)}}, api.ErrArg)
}

// Every byte of names and data comes back, and so do all numbers.
func TestP1807Bytes(t *testing.T) {
	var all []byte
	for b := range 256 {
		all = append(all, byte(b))
	}
	for i := range 257 {
		steps := []api.Step{frame(string(all[:i])), call(1, 2, 3, api.OpRead, string(all[i:]), 0, 0)}
		text := fmt.Sprintf("%sframe 0 %s\ncall 1 2 3 read %s\n", line, modelText(string(all[:i])), modelText(string(all[i:])))
		wantPrint(t, config(), steps, text)
		wantParse(t, text, config(), steps...)
	}
}

// A script at both limits comes back too.
func TestP1807Limits(t *testing.T) {
	steps := slices.Repeat([]api.Step{{Kind: api.StepBag}}, api.MaxSteps-1)
	steps = append(steps, filled(api.MaxText-4*len(steps)))
	text, e := script.Print(config(), steps)
	if e != api.OK || len(text) != api.MaxText {
		t.Fatalf("%d bytes: %d", len(text), e)
	}
	c, list, at, column, e := script.Parse(text)
	if e != api.OK || at != 0 || column != 0 || c != config() || !sameSteps(list, steps) {
		t.Errorf("Parse of %d steps: %d, %d, %d, %d", len(steps), len(list), at, column, e)
	}
}
