package replica_test

import (
	"math"
	"reflect"
	"strings"
	"testing"

	"sluice/api"
	"sluice/replica"
)

func wantRefused(t *testing.T, c api.Config, me int, want api.Errno) {
	t.Helper()
	if r, e := replica.New(c, me); r != nil || e != want {
		t.Errorf("New(%+v, %d): %v, %d; want %d", c, me, r, e, want)
	}
}

// numbers are a config's, each with its bounds.
func numbers(c *api.Config) []struct{ n, low, high *int } {
	bound := func(n *int, low, high int) struct{ n, low, high *int } {
		return struct{ n, low, high *int }{n, &low, &high}
	}
	return []struct{ n, low, high *int }{
		bound(&c.Replicas, 2, 16), bound(&c.Window, 1, 16), bound(&c.Resend, 1, 1000), bound(&c.Timeout, 1, 1000), bound(&c.Queue, 1, 32),
		bound(&c.Cache, 1, 16), bound(&c.Counters, 1, 4), bound(&c.Holds, 0, 16), bound(&c.Sessions, 1, 64), bound(&c.Bag, 1, 1024),
	}
}

// Each number of the config at its bounds and one past them; a wrong config goes ahead of a wrong me.
func TestP1401New(t *testing.T) {
	for i := range numbers(&api.Config{}) {
		c := config()
		n := numbers(&c)[i]
		for _, wrong := range append([]int{*n.low - 1, *n.high + 1}, far...) {
			*n.n = wrong
			wantRefused(t, c, 0, api.ErrArg)
			wantRefused(t, c, -1, api.ErrArg)
		}
		for _, right := range []int{*n.low, *n.high} {
			*n.n = right
			placed(t, c, 0)
			placed(t, c, c.Replicas-1)
			wantRefused(t, c, c.Replicas, api.ErrReplica)
			wantRefused(t, c, -1, api.ErrReplica)
		}
	}
	wantRefused(t, api.Config{}, 0, api.ErrArg)
	for _, me := range append([]int{3, 16}, far...) {
		wantRefused(t, config(), me, api.ErrReplica)
	}
}

// A new replica knows nothing and waits for nothing.
func TestP1401Fresh(t *testing.T) {
	for me := range 3 {
		next := []int{1, 1, 1}
		next[me] = 0
		want := api.Sight{Out: make([][]api.Msg, 3), Under: make([][]api.Segment, 3), Next: next}
		if s := placed(t, config(), me).r.See(); !reflect.DeepEqual(s, want) {
			t.Errorf("%d: %+v; want %+v", me, s, want)
		}
	}
}

// wantGood asserts whether an op is a good one: at the home of a name that is not known, such a one is answered something
// else than ErrArg. One that is not has no effect.
func wantGood(t *testing.T, o api.Op, good bool) {
	t.Helper()
	acts := first(t).call(0, o)
	if len(acts.Replies) != 1 || (acts.Replies[0].Err != api.ErrArg) != good {
		t.Errorf("%+v: %+v; good should be %v", o, acts.Replies, good)
	}
	if !good {
		wantReplies(t, acts, reply(id(0, 1), api.ErrArg, 0))
		wantEffects(t, acts)
		wantMails(t, acts)
	}
}

// Each kind with its A and B at their bounds and one past them.
func TestP1402Good(t *testing.T) {
	const top = maxCap
	for _, x := range []struct {
		kind         int
		aLow, aHigh  int
		bLow, bHigh  int
		otherA, from int // the A for which each B is tried, the B for each A
	}{
		{api.OpCreate, 1, top, 0, top, 5, 2},
		{api.OpInc, 1, top, 0, 0, 5, 0},
		{api.OpDec, 1, top, 0, 0, 5, 0},
		{api.OpHold, 1, top, 1, 1000, 5, 3},
		{api.OpCommit, 1, math.MaxInt64, 0, 0, 5, 0},
		{api.OpRelease, 1, math.MaxInt64, 0, 0, 5, 0},
		{api.OpRead, 0, 0, 0, 0, 0, 0},
		{api.OpTake, 0, top, 1, top, 5, 5},
		{api.OpReset, 0, top, 0, 0, 5, 0},
		{api.OpRecap, 1, top, 0, 0, 5, 0},
		{api.OpLook, 0, 0, 0, 0, 0, 0},
	} {
		for _, n := range append([]int{0, 1, 2, 999, 1000, 1001, top - 1, top, top + 1}, far...) {
			wantGood(t, op(x.kind, "a", n, x.from), n >= x.aLow && n <= x.aHigh)
			wantGood(t, op(x.kind, "a", x.otherA, n), n >= x.bLow && n <= x.bHigh)
		}
	}
}

// Kinds that are none, and names that are none, with every kind.
func TestP1402NoKindNoName(t *testing.T) {
	for _, kind := range append([]int{0, 12, 13, 256 + api.OpRead}, far...) {
		wantGood(t, op(kind, "a"), false)
		wantGood(t, op(kind, "a", 1), false)
		wantGood(t, op(kind, "a", 1, 1), false)
	}
	goods := []api.Op{create("", 5, 2), inc("", 1), dec("", 1), op(api.OpHold, "", 1, 1), op(api.OpCommit, "", 16), op(api.OpRelease, "", 16), read(""), op(api.OpTake, "", 1, 1), op(api.OpReset, "", 1), recap("", 5), look("")}
	for _, o := range goods {
		for _, name := range []string{"", "a b", " ", "a\x7f", "\x00", "a\x80", "é", strings.Repeat("a", 17), strings.Repeat("a", 1000)} {
			o.Name = name
			wantGood(t, o, false)
		}
		for _, name := range []string{"a", strings.Repeat("a", 16), "!~"} {
			o.Name = name
			if o.Kind != api.OpLook && len(first(t).call(0, o).Replies) == 0 {
				continue // its home is another one: it is asked
			}
			wantGood(t, o, true)
		}
	}
}

func (b *bench) wantErr(c api.Call, o api.Op, want api.Errno) {
	b.t.Helper()
	before := b.r.See()
	if acts, e := b.r.Call(c, o); e != want || !reflect.DeepEqual(acts, api.Acts{}) {
		b.t.Errorf("%+v: %+v, %d; want %d", c, acts, e, want)
	}
	if after := b.r.See(); !reflect.DeepEqual(before, after) {
		b.t.Errorf("%+v, refused, has changed %+v into %+v", c, before, after)
	}
}

// A session that is none of the replica's is refused ahead of all else.
func TestP1403Session(t *testing.T) {
	b := placed(t, config(), 1)
	for _, session := range append([]int{0, 2, 3, 5, 9, 10, 13, -2, -3}, far...) {
		b.wantErr(id(session, 1), read("k"), api.ErrSession)
		b.wantErr(id(session, 0), api.Op{}, api.ErrSession)
	}
	for _, session := range []int{1, 4, 7} {
		b.want(session, read("k"), api.ErrNone, 0)
	}
}

// The cache's errors go ahead of the op's.
func TestP1403Cache(t *testing.T) {
	b := first(t)
	for _, n := range append([]int{0, api.MaxRequest + 1}, far...) {
		b.wantErr(id(0, n), api.Op{}, api.ErrArg)
	}
	for _, n := range []int{2, 3, api.MaxRequest} {
		b.wantErr(id(0, n), read("a"), api.ErrOrder)
	}
	b.want(0, create("a", 10, 4), api.OK, 0)
	for range 4 {
		b.want(0, dec("a", 1), api.OK, 0)
	}
	b.wantErr(id(0, 1), create("a", 10, 4), api.ErrStale)
	b.wantErr(id(0, 7), read("a"), api.ErrOrder)
	b.waits(3, dec("k", 1))
	b.wantErr(id(3, 1), dec("k", 1), api.ErrPending)
	b.wantErr(id(3, 1), api.Op{}, api.ErrPending)
}

// again asserts that a call is answered as it was, and that nothing happens.
func (b *bench) again(c api.Call, o api.Op, want api.Reply) {
	b.t.Helper()
	before := b.r.See()
	acts, e := b.r.Call(c, o)
	if e != api.OK || !reflect.DeepEqual(acts, api.Acts{Replies: []api.Reply{want}}) {
		b.t.Errorf("%+v again: %+v, %d; want %+v", c, acts, e, want)
	}
	if !reflect.DeepEqual(before, b.r.See()) {
		b.t.Errorf("%+v again has changed something", c)
	}
}

// A reply that is kept is answered again, whatever the op is now: OK, and each kind of refusal.
func TestP1403Kept(t *testing.T) {
	b := first(t)
	b.want(0, create("a", 10, 4), api.OK, 0)
	b.want(0, read("a"), api.OK, 4)
	b.want(0, dec("a", 5), api.ErrRights, 0)
	b.want(0, op(99, "a"), api.ErrArg, 0)
	b.again(id(0, 1), create("a", 10, 4), reply(id(0, 1), api.OK, 0))
	b.again(id(0, 2), dec("a", 1), reply(id(0, 2), api.OK, 4))
	b.again(id(0, 3), dec("a", 5), reply(id(0, 3), api.ErrRights, 0))
	b.again(id(0, 4), api.Op{}, reply(id(0, 4), api.ErrArg, 0))
	for range 4 {
		b.waits(3, read("k"))
	}
	b.want(3, read("k"), api.ErrBusy, 0)
	b.again(id(3, 5), read("k"), reply(id(3, 5), api.ErrBusy, 0))
	b.ticks(20)
	b.again(id(3, 2), read("k"), reply(id(3, 2), api.ErrTimeout, 0))
	b.hear(1, told(id(3, 2), "k", api.OK, 10))
	b.again(id(3, 2), read("k"), reply(id(3, 2), api.ErrTimeout, 0))
	b.wantErr(id(3, 1), read("k"), api.ErrStale)
}

// OpLook tells what the views say, wherever the name is at home, frozen or not, however many calls are open; it has no
// effect, and asks nobody.
func TestP1403Look(t *testing.T) {
	b := first(t)
	for _, name := range []string{"a", "k", "q"} {
		acts := b.call(0, look(name))
		wantReplies(t, acts, reply(id(0, b.ids[0]), api.ErrNone, 0))
		wantEffects(t, acts)
		wantMails(t, acts)
	}
	b.want(0, create("a", 10, 4), api.OK, 0)
	b.want(0, look("a"), api.OK, 4)
	b.want(0, dec("a", 1), api.OK, 0)
	b.want(0, look("a"), api.OK, 3)
	b.hear(1, digest(view("a", 10, 1, rights(2, 0)), view("k", 9, 1, rights(7, 1))))
	b.hear(2, digest(view("a", 10, 1, rights(1, 1))))
	b.want(0, look("a"), api.OK, 6)
	b.want(0, look("k"), api.OK, 7)
	b.hear(1, mark("a", 10, at(1, 1)))
	for range 4 {
		b.waits(3, read("a"))
	}
	acts := b.call(0, look("a"))
	wantReplies(t, acts, reply(id(0, b.ids[0]), api.OK, 3))
	wantEffects(t, acts)
	wantMails(t, acts)
}

// A name that is not known here is asked for at its home, whatever the op, and the call is open.
func TestP1403Asked(t *testing.T) {
	b := first(t)
	for i, o := range []api.Op{create("k", 5, 9), dec("k", 1), read("q"), recap("q", 3)} {
		home := 1 + i/2
		acts := b.waits(3, o)
		wantMails(t, acts, mail{home, ask(id(3, i+1), o)})
	}
	b.wantOpen(id(3, 1), id(3, 2), id(3, 3), id(3, 4))
	for _, o := range []api.Op{create("k", 5, 2), inc("k", 1), read("q"), dec("c", 1)} {
		acts := b.call(0, o)
		wantReplies(t, acts, reply(id(0, b.ids[0]), api.ErrBusy, 0))
		wantEffects(t, acts)
		wantMails(t, acts)
	}
	b.wantOpen(id(3, 1), id(3, 2), id(3, 3), id(3, 4))
	if b.knows("k") || b.knows("q") {
		t.Error("a name is known by asking for it")
	}
	// at home nobody is asked, and no place is needed
	b.want(0, read("a"), api.ErrNone, 0)
	b.want(0, create("a", 10, 4), api.OK, 0)
	b.want(0, dec("a", 1), api.OK, 0)
}

// At home, in the order of the refusals; all but ErrCounters are effects.
func TestP1404Create(t *testing.T) {
	b := first(t)
	for _, x := range []struct {
		o api.Op
		e api.Errno
	}{
		{create("a", 10, 11), api.ErrCap},
		{create("a", 10, 4), api.OK},
		{create("a", 10, 4), api.ErrExists},
		{create("a", 10, 11), api.ErrExists},
		{create("b", 7, 7), api.OK},
		{create("d", 7, 8), api.ErrCap},
		{create("d", 8, 8), api.ErrCounters},
		{create("b", 1, 0), api.ErrExists},
	} {
		acts := b.call(0, x.o)
		wantReplies(t, acts, reply(id(0, b.ids[0]), x.e, 0))
		wantMails(t, acts)
		if x.e == api.ErrCounters {
			wantEffects(t, acts)
		} else {
			wantEffects(t, acts, effect(id(0, b.ids[0]), x.o, x.e, 0))
		}
	}
	b.wantStock(api.Stock{Name: "a", Cap: 10, Rights: rights(4, 6), About: 4})
	b.wantStock(api.Stock{Name: "b", Cap: 7, Rights: rights(7, 0), About: 7})
	if b.knows("d") {
		t.Error("a refused counter is known")
	}
	b.wantOpen()
}

// A counter at the bounds.
func TestP1404Edges(t *testing.T) {
	b := first(t)
	b.want(0, create("a", maxCap, maxCap), api.OK, 0)
	b.want(0, create("b", 1, 0), api.OK, 0)
	b.wantStock(api.Stock{Name: "a", Cap: maxCap, Rights: rights(maxCap, 0), About: maxCap})
	b.wantStock(api.Stock{Name: "b", Cap: 1, Rights: rights(0, 1)})
	b.want(0, dec("a", maxCap), api.OK, 0)
	b.want(0, read("a"), api.OK, 0)
	b.want(0, inc("a", maxCap), api.OK, 0)
	b.want(0, read("a"), api.OK, maxCap)
}

// At home every other op about a name that is not known: ErrNone, an effect.
func TestP1404None(t *testing.T) {
	b := first(t)
	for _, o := range []api.Op{inc("a", 1), dec("a", 1), op(api.OpHold, "a", 1, 1), op(api.OpCommit, "a", 17), op(api.OpRelease, "a", 16), read("a"), op(api.OpTake, "a", 0, 1), op(api.OpReset, "a", 0), recap("a", 5)} {
		acts := b.call(0, o)
		wantReplies(t, acts, reply(id(0, b.ids[0]), api.ErrNone, 0))
		wantEffects(t, acts, effect(id(0, b.ids[0]), o, api.ErrNone, 0))
		wantMails(t, acts)
	}
}

// Not at home, where the name is known: OpCreate is answered on the spot, frozen or not.
func TestP1404Known(t *testing.T) {
	b := first(t)
	b.hear(1, give("k", 10, rights(0, 0)))
	for range 2 {
		for _, o := range []api.Op{create("k", 5, 2), create("k", 5, 9)} {
			acts := b.call(0, o)
			wantReplies(t, acts, reply(id(0, b.ids[0]), api.ErrExists, 0))
			wantEffects(t, acts, effect(id(0, b.ids[0]), o, api.ErrExists, 0))
			wantMails(t, acts)
		}
		b.hear(1, mark("k", 10, at(1, 1)))
	}
}

// Where the counter is frozen, every op waits in the line, and is open.
func TestP1405Frozen(t *testing.T) {
	b := first(t)
	b.want(0, create("a", 10, 4), api.OK, 0)
	b.hear(2, mark("a", 10, at(1, 2)))
	for i, o := range []api.Op{dec("a", 1), inc("a", 1), op(api.OpCommit, "a", 16), read("a")} {
		wantMails(t, b.waits(3*(i%2), o))
		if s := b.stock("a"); s.Wait != i+1 || s.Own != at(0, 0) {
			t.Errorf("%+v: %+v", o, s)
		}
	}
	b.wantOpen(id(0, 2), id(0, 3), id(3, 1), id(3, 2))
	// Queue calls are open: no further one may wait, and none is answered out of turn
	for _, o := range []api.Op{dec("a", 1), read("a"), recap("a", 5)} {
		acts := b.call(0, o)
		wantReplies(t, acts, reply(id(0, b.ids[0]), api.ErrBusy, 0))
		wantEffects(t, acts)
		wantMails(t, acts)
	}
	if s := b.stock("a"); s.Wait != 4 {
		t.Errorf("%d wait", s.Wait)
	}
}

// Where it is not frozen a fast op needs no place among the open ones, an exact one does, though it would be decided at
// once.
func TestP1405Busy(t *testing.T) {
	b := first(t)
	b.want(0, create("a", 10, 4), api.OK, 0)
	for range 3 {
		b.waits(3, read("k"))
	}
	b.want(0, read("a"), api.OK, 4)
	b.waits(3, read("k"))
	for _, o := range []api.Op{read("a"), op(api.OpTake, "a", 4, 1), op(api.OpReset, "a", 1), recap("a", 20)} {
		acts := b.call(0, o)
		wantReplies(t, acts, reply(id(0, b.ids[0]), api.ErrBusy, 0))
		wantEffects(t, acts)
		wantMails(t, acts)
	}
	b.want(0, dec("a", 1), api.OK, 0)
	b.want(0, op(api.OpHold, "a", 1, 1), api.OK, 16)
	b.want(0, inc("a", 99), api.ErrRights, 0)
	b.wantStock(api.Stock{Name: "a", Cap: 10, Rights: rights(2, 7), Held: 1, About: 2})
}

// A call that was asked is open already: it is not busy where all places are taken, its own among them.
func TestP1405OpenNotBusy(t *testing.T) {
	for _, frozen := range []bool{false, true} {
		b := first(t)
		o := []api.Op{read("k"), dec("k", 1)}
		for i := range 4 {
			b.waits(0, o[i%2])
		}
		if frozen {
			b.hear(1, mark("k", 10, at(1, 1)))
		}
		acts := b.hear(1, told(id(0, 1), "k", api.OK, 10), told(id(0, 2), "k", api.OK, 10))
		wantReplies(t, acts)
		b.wantOpen(id(0, 1), id(0, 2), id(0, 3), id(0, 4))
		if s := b.stock("k"); frozen && (s.Wait != 2 || s.Own != at(0, 0)) || !frozen && (s.Wait != 1 || s.Own != at(1, 0)) {
			t.Errorf("frozen %v: %+v", frozen, s)
		}
	}
}

// An exact op begins an epoch, of which all peers are told; what the ledger has is gathered.
func TestP1405Begin(t *testing.T) {
	b := first(t)
	b.hear(1, give("k", 10, rights(2, 3)))
	acts := b.waits(0, read("k"))
	wantMails(t, acts, both(mark("k", 10, at(1, 0)))...)
	b.wantStock(api.Stock{Name: "k", Cap: 10, Got: rights(2, 3), Live: []api.Epoch{at(1, 0)}, Own: at(1, 0), About: 2})
	b.wantOpen(id(0, 1))
	b.waits(0, dec("k", 1))
	b.wantStock(api.Stock{Name: "k", Cap: 10, Got: rights(2, 3), Live: []api.Epoch{at(1, 0)}, Own: at(1, 0), Wait: 1, About: 2})
}

// With all rights here it is decided at once: no message, an effect, and the round is used up.
func TestP1405AtOnce(t *testing.T) {
	b := first(t)
	b.want(0, create("a", 10, 4), api.OK, 0)
	for _, x := range []struct {
		o     api.Op
		e     api.Errno
		value int
	}{
		{read("a"), api.OK, 4},
		{op(api.OpTake, "a", 4, 3), api.OK, 4},
		{op(api.OpTake, "a", 4, 3), api.ErrMismatch, 0},
		{op(api.OpReset, "a", 9), api.OK, 9},
	} {
		acts := b.call(0, x.o)
		wantReplies(t, acts, reply(id(0, b.ids[0]), x.e, x.value))
		wantEffects(t, acts, effect(id(0, b.ids[0]), x.o, x.e, x.value))
		if len(acts.Frames) != 0 {
			t.Errorf("%+v sends %d frames", x.o, len(acts.Frames))
		}
	}
	b.wantStock(api.Stock{Name: "a", Cap: 10, Rights: rights(9, 1), About: 9})
	b.wantOpen()
	wantMails(t, b.waits(0, recap("a", 11)), both(mark("a", 10, at(5, 0)))...)
}

// An OpRecap tells all others even where all rights are here.
func TestP1405Recap(t *testing.T) {
	b := first(t)
	b.want(0, create("a", 10, 4), api.OK, 0)
	wantMails(t, b.waits(0, recap("a", 12)), both(mark("a", 10, at(1, 0)))...)
	wantQuiet(t, b.hear(1, yield("a", 10, at(1, 0), rights(0, 0), 0)))
	acts := b.hear(2, yield("a", 10, at(1, 0), rights(0, 0), 0))
	wantReplies(t, acts, reply(id(0, 2), api.OK, 12))
}

// Behind the last round there is none: the answer is ErrLong, no effect, and the counter is not frozen.
func TestP1405Long(t *testing.T) {
	b := first(t)
	b.want(0, create("a", 10, 4), api.OK, 0)
	b.hear(1, abort("a", 10, at(maxRound-1, 1), rights(0, 0)))
	b.want(0, read("a"), api.OK, 4)
	for range 2 {
		acts := b.call(0, read("a"))
		wantReplies(t, acts, reply(id(0, b.ids[0]), api.ErrLong, 0))
		wantEffects(t, acts)
		wantMails(t, acts)
	}
	b.wantOpen()
	b.want(0, dec("a", 1), api.OK, 0)
	if b.frozen("a") {
		t.Error("frozen")
	}
	// one that was asked is answered likewise, and open no more
	b.waits(0, read("k"))
	acts := b.hear(1, abort("k", 10, at(maxRound, 1), rights(0, 0)), told(id(0, b.ids[0]), "k", api.OK, 10))
	wantReplies(t, acts, reply(id(0, b.ids[0]), api.ErrLong, 0))
	b.wantOpen()
	wantReplies(t, b.ticks(25))
}

// A call's time goes from when it was taken, also where it was asked first, waits then, and has begun an epoch.
func TestP1405Deadline(t *testing.T) {
	b := first(t)
	b.waits(0, read("k"))
	b.ticks(7)
	b.hear(1, mark("k", 10, at(1, 1)), told(id(0, 1), "k", api.OK, 10))
	b.ticks(7)
	b.hear(1, grant("k", 10, at(1, 1), rights(1, 0)))
	if s := b.stock("k"); s.Own != at(2, 0) {
		t.Fatalf("no epoch: %+v", s)
	}
	acts := b.ticks(6)
	wantReplies(t, acts, reply(id(0, 1), api.ErrTimeout, 0))
}

// Each fast op with what it needs, and without.
func TestP1406Fast(t *testing.T) {
	b := first(t)
	b.want(0, create("a", 10, 4), api.OK, 0)
	for _, x := range []struct {
		o      api.Op
		e      api.Errno
		value  int
		has    api.Rights
		held   int
		effect bool
	}{
		{dec("a", 4), api.OK, 0, rights(0, 10), 0, true},
		{dec("a", 1), api.ErrRights, 0, rights(0, 10), 0, false},
		{inc("a", 10), api.OK, 0, rights(10, 0), 0, true},
		{inc("a", 1), api.ErrRights, 0, rights(10, 0), 0, false},
		{op(api.OpHold, "a", 11, 5), api.ErrRights, 0, rights(10, 0), 0, false},
		{op(api.OpHold, "a", 3, 5), api.OK, 16, rights(7, 0), 3, true},
		{op(api.OpHold, "a", 4, 1000), api.OK, 32, rights(3, 0), 7, true},
		{op(api.OpHold, "a", 1, 5), api.ErrHolds, 0, rights(3, 0), 7, false},
		{op(api.OpHold, "a", 9, 5), api.ErrHolds, 0, rights(3, 0), 7, false},
		{op(api.OpCommit, "a", 17), api.ErrReplica, 0, rights(3, 0), 7, false},
		{op(api.OpRelease, "a", 31), api.ErrReplica, 0, rights(3, 0), 7, false},
		{op(api.OpCommit, "a", 48), api.ErrHold, 0, rights(3, 0), 7, true},
		{op(api.OpRelease, "a", 48), api.ErrHold, 0, rights(3, 0), 7, true},
		{op(api.OpCommit, "a", 16), api.OK, 3, rights(3, 3), 4, true},
		{op(api.OpCommit, "a", 16), api.ErrHold, 0, rights(3, 3), 4, true},
		{op(api.OpRelease, "a", 32), api.OK, 4, rights(7, 3), 0, true},
		{op(api.OpRelease, "a", 32), api.ErrHold, 0, rights(7, 3), 0, true},
		{op(api.OpHold, "a", 7, 1), api.OK, 48, rights(0, 3), 7, true},
	} {
		acts := b.call(0, x.o)
		wantReplies(t, acts, reply(id(0, b.ids[0]), x.e, x.value))
		if len(acts.Frames) != 0 {
			t.Errorf("%+v sends frames", x.o)
		}
		if x.effect {
			wantEffects(t, acts, effect(id(0, b.ids[0]), x.o, x.e, x.value))
		} else {
			wantEffects(t, acts)
		}
		b.wantStock(api.Stock{Name: "a", Cap: 10, Rights: x.has, Held: x.held, About: x.has.Down})
	}
}

// A config without holds has room for none.
func TestP1406NoHolds(t *testing.T) {
	c := config()
	c.Holds = 0
	b := placed(t, c, 0)
	b.want(0, create("a", 10, 4), api.OK, 0)
	b.want(0, op(api.OpHold, "a", 1, 1), api.ErrHolds, 0)
	b.want(0, op(api.OpCommit, "a", 16), api.ErrHold, 0)
}

// What a call has lacked is asked for at the next tick: of OpDec and OpHold down rights, of OpInc up rights; of no other
// refusal anything.
func TestP1406Lacks(t *testing.T) {
	for _, x := range []struct {
		o    api.Op
		want api.Rights
	}{
		{dec("a", 9), rights(5, 0)},
		{op(api.OpHold, "a", 6, 5), rights(2, 0)},
		{inc("a", 7), rights(0, 2)},
	} {
		b := first(t)
		b.want(0, create("a", 9, 4), api.OK, 0)
		b.hear(2, digest(view("a", 20, 1, rights(9, 9))))
		b.want(0, x.o, api.ErrRights, 0)
		wantMails(t, b.tick(), mail{1, digest(view("a", 9, 1, rights(4, 5)))}, mail{2, want("a", 9, x.want)})
		wantMails(t, b.tick(), mail{2, digest(view("a", 9, 1, rights(4, 5)))})
	}
	b := first(t)
	b.want(0, create("a", 9, 4), api.OK, 0)
	b.hear(2, digest(view("a", 20, 1, rights(9, 9))))
	b.want(0, op(api.OpHold, "a", 1, 5), api.OK, 16)
	b.want(0, op(api.OpHold, "a", 1, 5), api.OK, 32)
	b.want(0, op(api.OpHold, "a", 5, 5), api.ErrHolds, 0)
	b.want(0, op(api.OpCommit, "a", 64), api.ErrHold, 0)
	b.want(0, op(api.OpCommit, "a", 17), api.ErrReplica, 0)
	if l := mails(t, b.tick()); len(l) != 1 || l[0].m.Kind != api.MsgDigest {
		t.Errorf("something is asked for: %+v", l)
	}
}
