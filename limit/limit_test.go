package limit_test

import (
	"math"
	"slices"
	"testing"

	"sluice/api"
	"sluice/limit"
)

func wantLong(t *testing.T, what string, steps []api.Step, long bool) {
	t.Helper()
	want := api.OK
	if long {
		want = api.ErrLong
	}
	if e := limit.Check(steps); e != want {
		t.Errorf("%s: %d, want %d", what, e, want)
	}
}

func TestP1503Steps(t *testing.T) {
	wantLong(t, "none", nil, false)
	wantLong(t, "one", []api.Step{{Kind: api.StepTick}}, false)
	for _, kind := range []int{0, api.StepTick, 99} {
		steps := make([]api.Step, api.MaxSteps+1)
		for i := range steps {
			steps[i].Kind = kind
		}
		wantLong(t, "as many as may be", steps[:api.MaxSteps], false)
		wantLong(t, "one too many", steps, true)
	}
}

func TestP1503Looks(t *testing.T) {
	looks := map[int]bool{api.StepSee: true, api.StepBag: true, api.StepWitness: true, api.StepImage: true}
	for _, kind := range []int{-1, math.MinInt64, math.MaxInt64} {
		wantKind(t, kind, false)
	}
	for kind := range 20 {
		wantKind(t, kind, looks[kind])
	}
	var mixed []api.Step
	for i := range api.MaxLooks {
		mixed = append(mixed, api.Step{Kind: []int{api.StepSee, api.StepBag, api.StepWitness, api.StepImage}[i%4], Replica: i - 1}, api.Step{})
	}
	wantLong(t, "all kinds of looks", mixed, false)
	for kind := range looks {
		wantLong(t, "one more", append(mixed[:len(mixed):len(mixed)], api.Step{Kind: kind}), true)
	}
}

// wantKind: so many steps of a kind with others between them.
func wantKind(t *testing.T, kind int, look bool) {
	t.Helper()
	var steps []api.Step
	for range api.MaxLooks + 1 {
		steps = append(steps, api.Step{Kind: kind}, api.Step{Kind: api.StepCall})
	}
	wantLong(t, "one too many of a kind", steps, look)
	wantLong(t, "as many as may be", steps[2:], false)
}

// Each step is taken once, in its turn, and its answer stands in its place; of too long a script none is taken.
func TestP1503Run(t *testing.T) {
	var taken []int
	do := func(s api.Step) api.Answer {
		taken = append(taken, s.I)
		return api.Answer{Err: api.Errno(s.I * 2)}
	}
	steps := []api.Step{{I: 3}, {I: 1}, {I: 2, Kind: api.StepSee}, {I: 1}}
	answers, e := limit.Run(steps, do)
	if e != api.OK || len(answers) != 4 || !slices.Equal(taken, []int{3, 1, 2, 1}) {
		t.Fatalf("Run: %d, %+v, taken %v", e, answers, taken)
	}
	for i, a := range answers {
		if a.Err != api.Errno(steps[i].I*2) {
			t.Errorf("the answer %d: %+v", i, a)
		}
	}
	if answers, e := limit.Run(nil, do); e != api.OK || len(answers) != 0 {
		t.Errorf("no steps: %d, %+v", e, answers)
	}
	taken = nil
	for _, long := range [][]api.Step{make([]api.Step, api.MaxSteps+1), slices.Repeat(steps, api.MaxLooks+1)} {
		if answers, e := limit.Run(long, do); e != api.ErrLong || len(answers)+len(taken) != 0 {
			t.Errorf("%d steps: %d, %d answers, %d taken", len(long), e, len(answers), len(taken))
		}
	}
	if answers, e := limit.Run(slices.Repeat(steps, api.MaxLooks), do); e != api.OK || len(answers) != 4*api.MaxLooks {
		t.Errorf("as many looks as may be: %d, %d answers", e, len(answers))
	}
}
