package script_test

import (
	"fmt"
	"math"
	"strings"
	"testing"

	"sluice/api"
	"sluice/script"
)

func tick(replica int) api.Step { return api.Step{Kind: api.StepTick, Replica: replica} }

func frame(data string) api.Step { return api.Step{Kind: api.StepFrame, Data: []byte(data)} }

func TestP1801MeansNothing(t *testing.T) {
	for _, nothing := range []string{"\n", "#\n", "##\n", "# tick 1\n", "#\xff\x00\r\t \n", "#\xe2\x82\n", "#\xc0\x8a\n", "#é€\n", "\n\n#\n\n"} {
		wantParse(t, nothing+line, config())
		wantSteps(t, nothing)
		wantSteps(t, nothing+"tick 1\n", tick(1))
		wantSteps(t, "tick 1\n"+nothing, tick(1))
		wantSteps(t, "tick 1\n"+nothing+"bag\n", tick(1), api.Step{Kind: api.StepBag})
	}
}

// A line is something else as soon as a byte stands ahead of its #, or as its blanks are others.
func TestP1801OneBlank(t *testing.T) {
	wantWrong(t, " \n", 1)
	wantWrong(t, " # no\n", 1)
	wantWrong(t, " tick 1\n", 1)
	wantWrong(t, "tick  1\n", 6)
	wantWrong(t, "tick\t1\n", 5)
	wantWrong(t, "tick 1 \n", 7)
	wantWrong(t, "tick 1\r\n", 7)
	wantWrong(t, "\r\n", 1)
	wantWrong(t, "bag #\n", 4)
	wantWrong(t, "tick 1#\n", 7)
	wantWrong(t, "bag\n\n\ttick 1\n", 1)
	wantRefused(t, " "+line, 1, 1, api.ErrScript)
	wantRefused(t, strings.Replace(line, " ", "  ", 1), 1, 10, api.ErrScript)
	wantRefused(t, strings.Replace(line, "\n", " \n", 1), 1, len(line), api.ErrScript)
}

// The last line has its line end too, one that means nothing among them.
func TestP1801LineEnd(t *testing.T) {
	wantRefused(t, line[:len(line)-1], 1, len(line), api.ErrScript)
	wantWrong(t, "tick 1", 7)
	wantWrong(t, "bag", 4)
	wantWrong(t, "bag\n#", 2)
	wantWrong(t, "bag\n# é", 5)
	wantWrong(t, "frame 0 -", 10)
	wantSteps(t, "tick 1\n", tick(1))
}

// The config is the first line that means something, and only that one.
func TestP1801ConfigFirst(t *testing.T) {
	wantRefused(t, "tick 1\n"+line, 1, 1, api.ErrScript)
	wantRefused(t, "#\n\nbag\n", 3, 1, api.ErrScript)
	wantRefused(t, line+line, 2, 3, api.ErrScript) // restart, request
	wantRefused(t, line+"bag\n"+line, 3, 3, api.ErrScript)
}

func TestP1802Numbers(t *testing.T) {
	for _, n := range []int{0, 1, 9, 10, 99, -1, -10, 1 << 40, math.MaxInt64, math.MaxInt64 - 1, math.MinInt64, math.MinInt64 + 1, 1e18, -1e18} {
		wantSteps(t, fmt.Sprintf("tick %d\n", n), tick(n))
	}
	for text, column := range map[string]int{
		"00": 7, "01": 7, "-0": 7, "-": 7, "--1": 7, "+1": 6, "": 6, "1-": 7, "-1-": 8, "-01": 7, "x": 6, "1x": 7, "-x": 7, "0x1": 7, "1_0": 7, "1.0": 7, "1e3": 7,
		"\u0661": 6, "1\u0661": 7, "%31": 6, "/": 6, ":": 6, "1/": 7, "1:": 7,
	} {
		wantWrong(t, "tick "+text+"\n", column)
	}
}

// A number is refused at the digit with which it, and each that goes on so, leaves int64.
func TestP1802LongNumbers(t *testing.T) {
	wantWrong(t, "see 9223372036854775808\n", 23)
	wantWrong(t, "see 9223372036854775807 \n", 24)
	wantWrong(t, "see 9223372036854775810\n", 23)
	wantWrong(t, "see 92233720368547758070\n", 24)
	wantWrong(t, "see 922337203685477581\n9\n", 1)
	wantWrong(t, "see 9300000000000000000\n", 23)
	wantWrong(t, "see 10000000000000000000\n", 24)
	wantWrong(t, "see -9223372036854775809\n", 24)
	wantWrong(t, "see -9223372036854775808 \n", 25)
	wantWrong(t, "see -92233720368547758080\n", 25)
	wantWrong(t, "see -9300000000000000000\n", 24)
	wantWrong(t, "see "+strings.Repeat("9", 1000)+"\n", 23)
	wantWrong(t, "see -"+strings.Repeat("9", 1000)+"\n", 24)
	wantWrong(t, "see 18446744073709551616\n", 24)
	wantWrong(t, "see 18446744073709551617\n", 24)
}

// Each byte has one sign, and no other.
func TestP1802Signs(t *testing.T) {
	own := "abcdefghijklmnopqrstuvwxyzABCDEFGHIJKLMNOPQRSTUVWXYZ0123456789_."
	for b := range 256 {
		c := string([]byte{byte(b)})
		coded := fmt.Sprintf("%%%02X", b)
		if strings.Contains(own, c) {
			wantSteps(t, "frame 0 "+c+"\n", frame(c))
			wantSteps(t, "frame 0 x"+c+c+"\n", frame("x"+c+c))
			wantWrong(t, "frame 0 "+coded+"\n", 11)
			wantWrong(t, "frame 0 %00"+coded+"\n", 14)
		} else {
			wantSteps(t, "frame 0 "+coded+"\n", frame(c))
			wantSteps(t, "frame 0 x"+coded+coded+"\n", frame("x"+c+c))
			wantSteps(t, "call 0 0 0 read "+coded+"\n", call(0, 0, 0, api.OpRead, c, 0, 0))
		}
		if lower := strings.ToLower(coded); lower != coded {
			wantWrong(t, "frame 0 "+lower+"\n", 9+strings.IndexAny(lower, "abcdef"))
		}
	}
}

func TestP1802TextWords(t *testing.T) {
	wantSteps(t, "frame 0 -\n", frame(""))
	wantSteps(t, "frame 0 %2D\n", frame("-"))
	wantSteps(t, "frame 0 a%2D\n", frame("a-"))
	wantSteps(t, "frame 0 %25%20%0A%23\n", frame("% \n#"))
	wantSteps(t, "frame 0 0123\n", frame("0123"))
	wantSteps(t, "frame 0 99999999999999999999\n", frame("99999999999999999999"))
	wantSteps(t, "frame 0 "+strings.Repeat("%FF", 5000)+"\n", frame(strings.Repeat("\xff", 5000)))
	wantSteps(t, "call 1 2 3 look "+strings.Repeat("k", 17)+"\n", call(1, 2, 3, api.OpLook, strings.Repeat("k", 17), 0, 0))
	for text, column := range map[string]int{
		"": 9, "--": 10, "-a": 10, "-%20": 10, "a-": 10, "-1": 10, "%": 10, "%2": 11, "%2\n": 11, "%G0": 10, "%0G": 11, "%g0": 10, "%%20": 10, "%2%20": 11, "% 0": 10,
		"a b": 10, "a/": 10, "a:": 10, "a@": 10, "a[": 10, "a`": 10, "a{": 10, "a^": 10, "é": 9, "a\x00": 10, "a\xff": 10, "+": 9, "a,": 10, "%-1": 10, "%+1": 10, "%1+": 11,
	} {
		wantWrong(t, "frame 0 "+strings.TrimSuffix(text, "\n")+"\n", column)
	}
}

func TestP1803AnyNumbers(t *testing.T) {
	wantParse(t, line, config())
	wantParse(t, "replicas 0 window 0 resend 0 timeout 0 queue 0 cache 0 counters 0 holds 0 sessions 0 bag 0\n", api.Config{})
	d := dice(1803)
	for range 300 {
		c := d.config()
		wantParse(t, configLine(c), c)
	}
	c := api.Config{Replicas: 1, Window: 2, Resend: 3, Timeout: 4, Queue: 5, Cache: 6, Counters: 7, Holds: 8, Sessions: 9, Bag: 10}
	text := "replicas 1 window 2 resend 3 timeout 4 queue 5 cache 6 counters 7 holds 8 sessions 9 bag 10\n"
	wantParse(t, text, c)
	wantPrint(t, c, nil, text)
}

func TestP1803Words(t *testing.T) {
	words := strings.Fields(line)
	at := 1
	for i, w := range words {
		rest := strings.Join(words[i+1:], " ")
		ahead := line[:at-1]
		wantRefused(t, ahead, 1, at, api.ErrScript)
		wantRefused(t, ahead+"x "+rest+"\n", 1, at, api.ErrScript)
		wantRefused(t, ahead+w+"x "+rest+"\n", 1, at+len(w), api.ErrScript)
		wantRefused(t, ahead+w, 1, at+len(w), api.ErrScript)
		at += len(w) + 1
	}
	wantRefused(t, strings.TrimSuffix(line, "\n")+" 1\n", 1, len(line), api.ErrScript)
	wantRefused(t, strings.ToUpper(line), 1, 1, api.ErrScript)
}

// lines: each line of the chapter's tables, with its step.
var lines = []struct {
	text string
	step api.Step
}{
	{"call 1 2 3 create k 4 5", call(1, 2, 3, api.OpCreate, "k", 4, 5)},
	{"call 1 2 3 hold k 4 5", call(1, 2, 3, api.OpHold, "k", 4, 5)},
	{"call 1 2 3 take k 4 5", call(1, 2, 3, api.OpTake, "k", 4, 5)},
	{"call 1 2 3 inc k 4", call(1, 2, 3, api.OpInc, "k", 4, 0)},
	{"call 1 2 3 dec k 4", call(1, 2, 3, api.OpDec, "k", 4, 0)},
	{"call 1 2 3 commit k 4", call(1, 2, 3, api.OpCommit, "k", 4, 0)},
	{"call 1 2 3 release k 4", call(1, 2, 3, api.OpRelease, "k", 4, 0)},
	{"call 1 2 3 reset k 4", call(1, 2, 3, api.OpReset, "k", 4, 0)},
	{"call 1 2 3 recap k 4", call(1, 2, 3, api.OpRecap, "k", 4, 0)},
	{"call 1 2 3 read k", call(1, 2, 3, api.OpRead, "k", 0, 0)},
	{"call 1 2 3 look k", call(1, 2, 3, api.OpLook, "k", 0, 0)},
	{"deliver 6", api.Step{Kind: api.StepDeliver, I: 6}},
	{"drop 6", api.Step{Kind: api.StepDrop, I: 6}},
	{"double 6", api.Step{Kind: api.StepDouble, I: 6}},
	{"move 6 7", api.Step{Kind: api.StepMove, I: 6, J: 7}},
	{"tick 1", api.Step{Kind: api.StepTick, Replica: 1}},
	{"see 1", api.Step{Kind: api.StepSee, Replica: 1}},
	{"crash 1", api.Step{Kind: api.StepCrash, Replica: 1}},
	{"restart 1", api.Step{Kind: api.StepRestart, Replica: 1}},
	{"image 1", api.Step{Kind: api.StepImage, Replica: 1}},
	{"arm 1 6 7", api.Step{Kind: api.StepArm, Replica: 1, I: 6, J: 7}},
	{"frame 1 ab", api.Step{Kind: api.StepFrame, Replica: 1, Data: []byte("ab")}},
	{"request 1 ab", api.Step{Kind: api.StepRequest, Replica: 1, Data: []byte("ab")}},
	{"bag", api.Step{Kind: api.StepBag}},
	{"witness", api.Step{Kind: api.StepWitness}},
}

func TestP1804Lines(t *testing.T) {
	for _, x := range lines {
		wantSteps(t, x.text+"\n", x.step)
		wantPrint(t, config(), []api.Step{x.step}, line+x.text+"\n")
		wantWrong(t, x.text+" 1\n", len(x.text)+1)
		wantWrong(t, strings.ToUpper(x.text)+"\n", 1)
		if cut := strings.LastIndex(x.text, " "); cut > 0 {
			wantWrong(t, x.text[:cut]+"\n", cut+1)
			wantWrong(t, x.text[:cut+1]+"\n", cut+2)
		}
	}
}

// A word that is cut off, goes on, or is in no table is refused at the byte behind which no word goes on.
func TestP1804Words(t *testing.T) {
	for text, column := range map[string]int{
		"c": 2, "ca": 3, "cal": 4, "call": 5, "calls": 5, "cr": 3, "cx": 2, "re": 3, "res": 4, "req": 4, "rex": 3, "r": 2, "d": 2, "de": 3, "dr": 3, "do": 3, "dx": 2,
		"a": 2, "ar": 3, "b": 2, "bad": 3, "bags": 4, "witnesses": 8, "wit": 4, "expire 1": 1, "create k 1 1": 3, "inc k 1": 2, "Call": 1, "0": 1, "-": 1, "%62ag": 1,
	} {
		wantWrong(t, text+"\n", column)
	}
	for text, column := range map[string]int{
		"": 12, "x": 12, "c": 13, "cr": 14, "co": 14, "cx": 13, "re": 14, "rea": 15, "rec": 15, "rel": 15, "res": 15, "rex": 14, "reads k": 16, "tick k": 13,
		"expire k 1": 12, "crash k": 14, "restart k": 15, "inc": 15, "inc -": 17, "inc k -": 19, "Inc k 1": 12, "look": 16, "look ": 17,
	} {
		wantWrong(t, "call 0 2 1 "+text+"\n", column)
	}
}

// What is not told is zero, also behind a line that tells it.
func TestP1804NothingLeft(t *testing.T) {
	wantSteps(t, "call 1 2 3 take k 4 5\narm 6 7 8\nframe 9 x\nbag\ncall 0 0 0 read -\nframe 0 -\n",
		call(1, 2, 3, api.OpTake, "k", 4, 5), api.Step{Kind: api.StepArm, Replica: 6, I: 7, J: 8}, api.Step{Kind: api.StepFrame, Replica: 9, Data: []byte("x")},
		api.Step{Kind: api.StepBag}, call(0, 0, 0, api.OpRead, "", 0, 0), frame(""))
}

func TestP1805Examples(t *testing.T) {
	wantSteps(t, "call 0 2 1 create k 10 4\ntick 1\n", call(0, 2, 1, api.OpCreate, "k", 10, 4), tick(1))
	wantSteps(t, "call 1 -1 7 hold a%20b 2 -5\n", call(1, -1, 7, api.OpHold, "a b", 2, -5))
	wantSteps(t, "frame 0 -\nrequest 1 %00z\n", frame(""), api.Step{Kind: api.StepRequest, Replica: 1, Data: []byte{0, 122}})
	for _, x := range []struct {
		text       string
		at, column int
	}{
		{"", 1, 1}, {"# only this\n", 2, 1}, {"replicas 2", 1, 11}, {"replicas 02 window 2\n", 1, 11}, {"replica 2 window 2\n", 1, 8},
		{line + "call 0 2 1 re\n", 2, 14}, {line + "call 0 2 1 reset k\n", 2, 19}, {line + "call 0 2 1 read k 1\n", 2, 18},
		{line + "call 0 2 1 inc %6B 1\n", 2, 18}, {line + "call 0 2 1 inc %6b 1\n", 2, 18}, {line + "see 9223372036854775808\n", 2, 23},
		{line + "bag \n", 2, 4}, {line + "arm 1 0 7\nre 1\n", 3, 3},
	} {
		wantRefused(t, x.text, x.at, x.column, api.ErrScript)
	}
}

// Without a config the place is the end, on a line of its own behind a line end; all lines are counted.
func TestP1805Ends(t *testing.T) {
	wantRefused(t, "\n", 2, 1, api.ErrScript)
	wantRefused(t, "\n\n\n", 4, 1, api.ErrScript)
	wantRefused(t, "#", 1, 2, api.ErrScript)
	wantRefused(t, "#\n#\xff\xff", 2, 4, api.ErrScript)
	wantRefused(t, "r", 1, 2, api.ErrScript)
	wantRefused(t, "x", 1, 1, api.ErrScript)
	wantRefused(t, "\n#\n\nreplicas", 4, 9, api.ErrScript)
	wantRefused(t, "\n#\n\n"+line+"#é\n\nbag\n\nbaz\n", 9, 3, api.ErrScript)
	wantRefused(t, "#\n"+line+"bag\nbag\nbag", 5, 4, api.ErrScript)
}

// The first wrong byte counts, whatever follows it.
func TestP1805First(t *testing.T) {
	wantRefused(t, line+"bag\nbax\ntick\n\xff", 3, 3, api.ErrScript)
	wantRefused(t, line+"tick 00 00\ntick 00", 2, 7, api.ErrScript)
}

func TestP1805TooManyBytes(t *testing.T) {
	fill := "#" + strings.Repeat("x", api.MaxText-len(line)-2) + "\n"
	wantParse(t, line+fill, config())
	wantParse(t, fill+line, config())
	wantRefused(t, line+fill+"\n", 0, 0, api.ErrLong)
	wantRefused(t, strings.Repeat("x", api.MaxText), 1, 1, api.ErrScript)
	wantRefused(t, strings.Repeat("x", api.MaxText+1), 0, 0, api.ErrLong)
	wantRefused(t, strings.Repeat("#", api.MaxText), 1, api.MaxText+1, api.ErrScript)
	wantRefused(t, strings.Repeat("\n", api.MaxText), api.MaxText+1, 1, api.ErrScript)
	wantRefused(t, line+fill+"tick", 0, 0, api.ErrLong)
}

// A text that is no script is none, however many steps it has.
func TestP1805TooManySteps(t *testing.T) {
	most := line + strings.Repeat("bag\n", api.MaxSteps)
	if _, steps, at, column, e := script.Parse(most + "\n#\n"); e != api.OK || len(steps) != api.MaxSteps || at != 0 || column != 0 {
		t.Errorf("as many steps as there may be: %d, %d, %d, %d", len(steps), at, column, e)
	}
	wantRefused(t, most+"bag\n", 0, 0, api.ErrLong)
	wantRefused(t, most+strings.Repeat("bag\n", 200000), 0, 0, api.ErrLong)
	wantRefused(t, most+"bag\nbah\n", api.MaxSteps+3, 3, api.ErrScript)
	wantRefused(t, most+"bag", api.MaxSteps+2, 4, api.ErrScript)
	wantRefused(t, most+"bag\n"+strings.Repeat("#", api.MaxText), 0, 0, api.ErrLong)
}
