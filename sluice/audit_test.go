package sluice_test

import (
	"testing"

	"sluice/api"
	"sluice/names"
)

// turn is a step, and what an audit behind it tells.
type turn struct {
	step api.Step
	want []int
}

// wantTurns asserts, behind each of the turns, the row of the one counter that there is.
func wantTurns(t *testing.T, c api.Config, steps []api.Step, turns ...turn) {
	t.Helper()
	for i, u := range turns {
		steps = append(steps, u.step)
		if a := ran(t, c, steps); a[len(a)-1].Err != api.OK {
			t.Fatalf("the turn %d is refused: %d", i, a[len(a)-1].Err)
		}
		wantAudit(t, "behind a turn", c, steps, u.want)
	}
}

func TestP1903Nothing(t *testing.T) {
	_, o := home()
	wantAudit(t, "no steps", config(), nil)
	wantAudit(t, "a name that nobody knows", config(), []api.Step{tick(0), call(o, 1, api.OpInc, 1)})
}

// Rights that may be spent, those that are held, and those that an initiator has gathered.
func TestP1903Stocks(t *testing.T) {
	h, _ := home()
	steps := []api.Step{
		call(h, 1, api.OpCreate, 10, 4), call(h, 2, api.OpDec, 3), call(h, 3, api.OpInc, 5), call(h, 4, api.OpHold, 2, 5),
		call(h, 5, api.OpReset, 7), call(h, 6, api.OpRecap, 9), call(h, 7, api.OpCommit, 16+h),
	}
	for i, want := range [][]int{
		{10, 4, 6, 0, 0, 0, 0, 0}, {10, 1, 9, 0, 0, 0, 0, 0}, {10, 6, 4, 0, 0, 0, 0, 0}, {10, 4, 4, 0, 0, 2, 0, 0},
		{10, 7, 1, 0, 0, 2, 0, 0}, {10, 0, 0, 7, 1, 2, 0, 0}, {10, 0, 0, 7, 1, 2, 0, 0},
	} {
		wantAudit(t, "at home", config(), steps[:i+1], want)
	}
	wantAudit(t, "behind all", config(), behind(steps, settled(t, config(), steps)), []int{9, 7, 2, 0, 0, 0, 0, 0})
}

// A gathering, letter by letter: rights whose letter is lost are under way still, and a segment that has arrived counts
// at its receiver alone, though its sender does not know of that.
func TestP1903Segments(t *testing.T) {
	h, o := home()
	spent, moving := []int{10, 3, 6, 0, 0, 1, 0, 0}, []int{10, 0, 0, 0, 0, 1, 3, 6}
	dealt := []int{10, 1, 3, 0, 0, 1, 2, 3}
	wantTurns(t, config(), []api.Step{call(h, 1, api.OpCreate, 10, 4), call(h, 2, api.OpHold, 1, 100), call(o, 1, api.OpRead)},
		turn{deliver(0), spent}, // the question
		turn{deliver(0), spent}, // its acknowledgement
		turn{deliver(0), spent}, // the answer: a MsgMark goes
		turn{deliver(0), spent}, // the answer's acknowledgement
		turn{deliver(0), moving},
		turn{deliver(0), moving}, // the mark's acknowledgement
		turn{drop(0), moving},
		turn{tick(h), moving},
		turn{tick(h), moving},
		turn{deliver(1), dealt}, // it has gone again: all are there, and a part goes back
		turn{drop(2), dealt},    // no acknowledgement of it comes
		turn{deliver(2), spent},
	)
}

// What has come too early is under way, till it is its turn.
func TestP1903Early(t *testing.T) {
	h, _ := home()
	c := config()
	c.Timeout, c.Resend = 1, 9
	got, dealt := []int{10, 0, 0, 4, 6, 0, 0, 0}, []int{10, 2, 3, 0, 0, 0, 2, 3}
	wantTurns(t, c, []api.Step{call(h, 1, api.OpCreate, 10, 4)},
		turn{call(h, 2, api.OpRecap, 20), got}, // a MsgMark goes
		turn{tick(h), dealt},                   // too late: a MsgAbort goes
		turn{deliver(1), dealt},
		turn{deliver(0), []int{10, 4, 6, 0, 0, 0, 0, 0}},
	)
}

// Messages that stand in an outbox, since the window is full.
func TestP1903Outboxes(t *testing.T) {
	h, o := home()
	c := config()
	c.Window, c.Resend = 1, 9
	spent, moving := []int{10, 4, 6, 0, 0, 0, 0, 0}, []int{10, 0, 0, 0, 0, 0, 4, 6}
	wantTurns(t, c, []api.Step{call(h, 1, api.OpCreate, 10, 4), tick(h)},
		turn{deliver(0), spent}, // o knows k
		turn{drop(0), spent},
		turn{tick(h), spent}, // a digest in the outbox
		turn{call(o, 1, api.OpRead), spent},
		turn{deliver(0), moving}, // the digest goes, and the MsgYield stays behind it
		turn{api.Step{Kind: api.StepSee, Replica: h}, moving},
	)
	sight := ran(t, c, []api.Step{
		call(h, 1, api.OpCreate, 10, 4), tick(h), deliver(0), drop(0), tick(h), call(o, 1, api.OpRead), deliver(0), {Kind: api.StepSee, Replica: h},
	})[7].Sight
	if out := sight.Out[o]; len(out) != 1 || out[0].Kind != api.MsgYield || out[0].Rights != rights(4, 6) {
		t.Errorf("the outbox has %+v", out)
	}
}

// A MsgWant moves no rights, neither in an outbox nor in a segment; the MsgGive that answers it does.
func TestP1903Wants(t *testing.T) {
	h, o := home()
	c := config()
	c.Window, c.Resend, c.Counters = 1, 9, 4
	other := api.Step{Kind: api.StepCall, Replica: o, Call: api.Call{Session: o, Id: 2}, Op: op(api.OpRead, atHome(h, "k"))}
	spent, given := []int{10, 4, 6, 0, 0, 0, 0, 0}, []int{10, 2, 6, 0, 0, 0, 2, 0}
	steps := []api.Step{call(h, 1, api.OpCreate, 10, 4), tick(h), deliver(0), deliver(0), call(o, 1, api.OpDec, 3), other, tick(o)}
	sight := ran(t, c, append(steps, api.Step{Kind: api.StepSee, Replica: o}))[7].Sight
	if out := sight.Out[h]; len(out) != 2 || out[0].Kind != api.MsgWant || out[0].Rights != rights(3, 0) {
		t.Fatalf("the outbox has %+v", out)
	}
	wantAudit(t, "in the outbox", c, steps, spent)
	wantTurns(t, c, steps,
		turn{deliver(0), spent}, // the question
		turn{deliver(0), spent}, // its acknowledgement: the MsgWant goes
		turn{deliver(1), given},
		turn{deliver(0), given}, // the home's word: the MsgGive goes
	)
}

// atHome is another name with this home.
func atHome(h int, name string) string {
	for _, other := range someNames {
		if other != name && names.Home(other, 2) == h {
			return other
		}
	}
	return ""
}

// The cap is that which has been turned most often, wherever that is known.
func TestP1903Recaps(t *testing.T) {
	h, o := home()
	c := config()
	c.Resend = 9
	begun := map[int][]int{h: {10, 0, 0, 4, 6, 0, 0, 0}, o: {10, 4, 6, 0, 0, 0, 0, 0}}
	for me, id := range map[int]int{h: 2, o: 1} {
		steps := []api.Step{call(h, 1, api.OpCreate, 10, 4), tick(h), deliver(0), deliver(0), call(me, id, api.OpRecap, 21)}
		wantAudit(t, "begun", c, steps, begun[me])
		steps = append(steps, deliver(0), deliver(0), deliver(0))
		rows := ran(t, c, append(steps, api.Step{Kind: api.StepSee, Replica: 1 - me}))
		if k := rows[len(rows)-1].Sight.Stocks[0]; k.Cap != 10 || k.Recaps != 0 {
			t.Errorf("the other one knows of it: %+v", k)
		}
		wantAudit(t, "decided", c, steps, []int{21, 2, 9 - me, 0, 0, 0, 2, 8 + me})
	}
}

// Of two caps that have been turned as often, which a frame from nowhere can lead to, the first replica's is told.
func TestP1903EqualRecaps(t *testing.T) {
	h, o := home()
	give := func(me, limit, recaps, down, up int) api.Step {
		return from(t, 1-me, me, 1, api.Msg{Kind: api.MsgGive, Name: "k", Cap: limit, Recaps: recaps, Rights: rights(down, up)})
	}
	wantAudit(t, "one alone", config(), []api.Step{give(o, 7, 3, 2, 1)}, []int{7, 2, 1, 0, 0, 0, 0, 0})
	create := call(h, 1, api.OpCreate, 10, 4)
	first := map[int]int{h: 10, o: 7}[0]
	wantAudit(t, "as often", config(), []api.Step{create, give(o, 7, 0, 2, 1)}, []int{first, 6, 7, 0, 0, 0, 0, 0})
	wantAudit(t, "as often", config(), []api.Step{give(o, 7, 0, 2, 1), create}, []int{first, 6, 7, 0, 0, 0, 0, 0})
	wantAudit(t, "more often", config(), []api.Step{create, give(o, 7, 1, 2, 1)}, []int{7, 6, 7, 0, 0, 0, 0, 0})
	wantAudit(t, "more often", config(), []api.Step{create, give(h, 12, 2, 1, 0), give(o, 7, 1, 2, 1)}, []int{12, 7, 7, 0, 0, 0, 0, 0})
}

// Names that one replica knows are told like those that all know, by rising names, each with its own rights.
func TestP1903Names(t *testing.T) {
	c := config()
	c.Counters = 4
	list := []string{"q", "b", "~", "B", "k", "!", "ba", "z"} // four at each home
	var steps []api.Step
	ids := make([]int, 2)
	for i, name := range list {
		me := names.Home(name, 2)
		ids[me]++
		steps = append(steps, api.Step{Kind: api.StepCall, Replica: me, Call: api.Call{Session: me, Id: ids[me]}, Op: op(api.OpCreate, name, 10+i, i)})
	}
	for i, a := range ran(t, c, steps) {
		if a.Replies[0].Err != api.OK {
			t.Fatalf("%q: %d", list[i], a.Replies[0].Err)
		}
	}
	var want [][]int
	for _, i := range []int{5, 3, 1, 6, 4, 0, 7, 2} { // ! B b ba k q z ~
		want = append(want, []int{10 + i, i, 10, 0, 0, 0, 0, 0})
	}
	wantAudit(t, "each at its home alone", c, steps, want...)
	wantAudit(t, "behind a tick", c, append(steps, tick(0), deliver(0)), want...)
	wantAudit(t, "at rest", c, behind(steps, settled(t, c, steps)), want...)
}
