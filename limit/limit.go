// Package limit: how long a script may be that is played whole.
package limit

import "sluice/api"

// Check tells api.ErrLong of more than api.MaxSteps steps, and of more than api.MaxLooks looks among them: so what is
// told of a script stays of a size.
func Check(steps []api.Step) api.Errno {
	if len(steps) > api.MaxSteps || looks(steps) > api.MaxLooks {
		return api.ErrLong
	}
	return api.OK
}

// looks counts the steps that tell much, whether they are refused or not.
func looks(steps []api.Step) int {
	n := 0
	for _, s := range steps {
		switch s.Kind {
		case api.StepSee, api.StepBag, api.StepWitness, api.StepImage:
			n++
		}
	}
	return n
}
