package script_test

import (
	"reflect"
	"strings"
	"testing"

	"sluice/api"
	"sluice/script"
)

// dice: numbers that hang on its beginning alone.
type dice uint64

func (d *dice) roll(n int) int {
	*d = *d*6364136223846793005 + 1442695040888963407
	return int(uint64(*d) >> 33 % uint64(n))
}

func (d *dice) bytes(n int) []byte {
	b := make([]byte, n)
	for i := range b {
		b[i] = byte(d.roll(256))
	}
	return b
}

// line is the config of the chapter's examples, with its line end.
const line = "replicas 2 window 2 resend 2 timeout 20 queue 4 cache 2 counters 2 holds 2 sessions 4 bag 50\n"

func config() api.Config {
	return api.Config{Replicas: 2, Window: 2, Resend: 2, Timeout: 20, Queue: 4, Cache: 2, Counters: 2, Holds: 2, Sessions: 4, Bag: 50}
}

func call(replica, session, id, kind int, name string, a, b int) api.Step {
	return api.Step{
		Kind: api.StepCall, Replica: replica, Call: api.Call{Session: session, Id: id}, Op: api.Op{Kind: kind, Name: name, A: a, B: b},
	}
}

// bare tells steps with no empty list, which is the same as none.
func bare(steps []api.Step) []api.Step {
	list := []api.Step{}
	for _, s := range steps {
		if len(s.Data) == 0 {
			s.Data = nil
		}
		list = append(list, s)
	}
	return list
}

func sameSteps(a, b []api.Step) bool { return reflect.DeepEqual(bare(a), bare(b)) }

// tail tells the end of a text that may be long.
func tail(text string) string { return text[max(0, len(text)-60):] }

func wantParse(t *testing.T, text string, c api.Config, steps ...api.Step) {
	t.Helper()
	got, list, at, column, e := script.Parse(text)
	if e != api.OK || at != 0 || column != 0 || got != c || !sameSteps(list, steps) {
		t.Errorf("Parse(%q): %+v, %+v, %d, %d, %d, want %+v, %+v", tail(text), got, list, at, column, e, c, steps)
	}
}

// wantSteps: lines behind the config of the examples.
func wantSteps(t *testing.T, lines string, steps ...api.Step) {
	t.Helper()
	wantParse(t, line+lines, config(), steps...)
}

func wantRefused(t *testing.T, text string, at, column int, err api.Errno) {
	t.Helper()
	c, list, l, k, e := script.Parse(text)
	if e != err || l != at || k != column || c != (api.Config{}) || len(list) != 0 {
		t.Errorf("Parse(%q): %+v, %+v, %d, %d, %d, want %d, %d, %d", tail(text), c, list, l, k, e, at, column, err)
	}
}

// wantWrong: the last line of what stands behind the config is wrong at a column.
func wantWrong(t *testing.T, lines string, column int) {
	t.Helper()
	at := 2 + strings.Count(strings.TrimSuffix(lines, "\n"), "\n")
	wantRefused(t, line+lines, at, column, api.ErrScript)
}

func wantPrint(t *testing.T, c api.Config, steps []api.Step, text string) {
	t.Helper()
	if s, e := script.Print(c, steps); e != api.OK || s != text {
		t.Errorf("Print(%+v, %+v): %q, %d, want %q", c, steps, s, e, text)
	}
}

func wantNoPrint(t *testing.T, steps []api.Step, err api.Errno) {
	t.Helper()
	if s, e := script.Print(config(), steps); e != err || s != "" {
		t.Errorf("Print of %d steps: %q, %d, want %d", len(steps), tail(s), e, err)
	}
}

func wantAnswers(t *testing.T, text string, list ...api.Answer) {
	t.Helper()
	if s := script.PrintAnswers(list); s != text {
		t.Errorf("PrintAnswers(%+v):\n%s\nwant\n%s", list, s, text)
	}
}
