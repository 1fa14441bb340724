// Package limit: scripts that are played whole, and how long they may be.
package limit

import "sluice/api"

// Check tells api.ErrLong of more than api.MaxSteps steps, and of more than api.MaxLooks looks among them: so what is
// told of a script stays of a size.
func Check(steps []api.Step) api.Errno {
	if len(steps) > api.MaxSteps || looks(steps) > api.MaxLooks {
		return api.ErrLong
	}
	return api.OK
}

// looks counts the steps that tell much, whether they are refused or not.
func looks(steps []api.Step) int {
	n := 0
	for _, s := range steps {
		switch s.Kind {
		case api.StepSee, api.StepBag, api.StepWitness, api.StepImage:
			n++
		}
	}
	return n
}

// Run takes a script's steps, one behind the other, and tells their answers: api.ErrLong as of Check.
func Run(steps []api.Step, do func(s api.Step) api.Answer) ([]api.Answer, api.Errno) {
	if e := Check(steps); e != api.OK {
		return nil, e
	}
	var answers []api.Answer
	for _, s := range steps {
		answers = append(answers, do(s))
	}
	return answers, api.OK
}
