package sluice_test

import (
	"strconv"
	"strings"
	"testing"

	"sluice/api"
	"sluice/cluster"
	"sluice/script"
	"sluice/sluice"
)

// A whole script: what is answered, what is refused, and what is seen.
func TestP1901Script(t *testing.T) {
	wantPlay(t, "a script", "# k is at home at 0\n"+line+`call 0 0 1 create k 10 4

call 0 0 2 dec k 3
call 1 1 1 read k
deliver 0
deliver 5
# the home's word
deliver 0
deliver 0
deliver 0
deliver 0
deliver 0
deliver 0
crash 0
tick 2
request 0 -
frame 1 sluice
call 0 1 2 look k
witness
see 0
`, `1 0
reply 0 1 0 0
2 0
reply 0 2 0 0
3 0
4 0
5 40
6 0
7 0
8 0
9 0
10 0
11 0
reply 1 1 0 1
12 150
13 3
14 20
15 10
16 132
17 0
effect 1 0 1 1 k 10 4 0 0
effect 2 0 2 3 k 3 0 0 0
effect 11 1 1 7 k 0 0 0 1
18 0
sight 0 1
stock k 10 0 0 0 0 0 0 0 0 0:0 1:1
under 1 0 1 2 2 %04%01k%0A%00%01%01%01%09%00
next 0 3
`)
}

func TestP1901NoSteps(t *testing.T) {
	wantPlay(t, "a config alone", line, "")
	wantPlay(t, "a step", line+"tick 0\n", "1 0\n")
}

// A text that is no script: the number and the place that Parse tells.
func TestP1901NoScript(t *testing.T) {
	for text, want := range map[string]string{
		"":                                  "error 180 line 1 column 1\n",
		"\n\n":                              "error 180 line 3 column 1\n",
		"# only this\n":                     "error 180 line 2 column 1\n",
		"replicas 2":                        "error 180 line 1 column 11\n",
		"replica 2\n":                       "error 180 line 1 column 8\n",
		"\x00nonsense":                      "error 180 line 1 column 1\n",
		line + "call 0 2 1 re\n":            "error 180 line 2 column 14\n",
		line + "tick 0\n\nbag \n":           "error 180 line 4 column 4\n",
		line + "tick 0":                     "error 180 line 2 column 7\n",
		strings.Repeat("#\n", 1234) + "x\n": "error 180 line 1235 column 1\n",
	} {
		wantPlay(t, "no script", text, want)
	}
}

// What is too long for Parse has no place; what is so for Run is told without one.
func TestP1901TooLong(t *testing.T) {
	comment := strings.Repeat("#", api.MaxText-len(line)-1)
	wantPlay(t, "as many bytes as may be", line+comment+"\n", "")
	wantPlay(t, "a byte too many", line+comment+"#\n", "error 2 line 0 column 0\n")
	ticks := strings.Repeat("tick 9\n", api.MaxSteps)
	if got := sluice.Play(line + ticks); !strings.HasPrefix(got, "1 3\n2 3\n") || strings.Count(got, "\n") != api.MaxSteps {
		t.Errorf("as many steps as may be: %q ..", got[:min(len(got), 60)])
	}
	wantPlay(t, "a step too many", line+ticks+"bag\n", "error 2 line 0 column 0\n")
	looks := strings.Repeat("bag\n", api.MaxLooks)
	if got := sluice.Play(line + looks); !strings.HasPrefix(got, "1 0\n2 0\n") || strings.Count(got, "\n") != api.MaxLooks {
		t.Errorf("as many looks as may be: %q", got)
	}
	for _, look := range []string{"bag", "witness", "see 0", "see 7", "image 0"} {
		wantPlay(t, "a look too many", line+looks+look+"\n", "error 2\n")
	}
}

// A config that is not right is a script's still: Run refuses it, ahead of all else.
func TestP1901NoConfig(t *testing.T) {
	words := []string{"replicas", "window", "resend", "timeout", "queue", "cache", "counters", "holds", "sessions", "bag"}
	for i := range words {
		for _, number := range []string{"-1", "9223372036854775807"} {
			fields := strings.Fields(line)
			fields[2*i+1] = number
			wrong := strings.Join(fields, " ") + "\n"
			wantPlay(t, words[i], wrong, "error 1\n")
			wantPlay(t, words[i], wrong+strings.Repeat("bag\n", api.MaxLooks+1), "error 1\n")
			wantPlay(t, words[i], wrong+"x\n", "error 180 line 2 column 1\n")
		}
	}
}

// The text of what Run answers, of any scripts.
func TestP1901AsRun(t *testing.T) {
	d := dice(1901)
	refused := 0
	for i := range 200 {
		c, steps, _ := scriptOf(t, d.bytes(20+d.roll(4500)), i%3 > 0)
		for k := range steps { // what no line tells
			steps[k] = lined(steps[k])
		}
		text, e := script.Print(c, steps)
		if e != api.OK {
			t.Fatalf("Print: %d", e)
		}
		answers, e := cluster.Run(c, steps)
		want := script.PrintAnswers(answers)
		if e != api.OK {
			want = "error " + strconv.Itoa(int(e)) + "\n"
			refused++
		}
		wantPlay(t, "any script", text, want)
		wantPlay(t, "any script with a word too many", text+"x", "error 180 line "+strconv.Itoa(len(steps)+2)+" column 1\n")
	}
	if refused == 0 || refused == 200 {
		t.Errorf("%d scripts were refused", refused)
	}
}

// lined is a step that a line tells whole.
func lined(s api.Step) api.Step {
	switch s.Kind {
	case api.StepCall:
		if s.Op.Kind < api.OpCreate || s.Op.Kind > api.OpLook {
			s.Op.Kind = api.OpInc
		}
		o := s.Op
		switch o.Kind {
		case api.OpRead, api.OpLook:
			o.A, o.B = 0, 0
		case api.OpCreate, api.OpHold, api.OpTake:
		default:
			o.B = 0
		}
		return api.Step{Kind: s.Kind, Replica: s.Replica, Call: s.Call, Op: o}
	case api.StepDeliver, api.StepDrop, api.StepDouble:
		return api.Step{Kind: s.Kind, I: s.I}
	case api.StepMove:
		return api.Step{Kind: s.Kind, I: s.I, J: s.J}
	case api.StepArm:
		return api.Step{Kind: s.Kind, Replica: s.Replica, I: s.I, J: s.J}
	case api.StepFrame, api.StepRequest:
		return api.Step{Kind: s.Kind, Replica: s.Replica, Data: s.Data}
	case api.StepTick, api.StepSee, api.StepCrash, api.StepRestart, api.StepImage:
		return api.Step{Kind: s.Kind, Replica: s.Replica}
	case api.StepWitness:
		return api.Step{Kind: s.Kind}
	}
	return api.Step{Kind: api.StepBag}
}
