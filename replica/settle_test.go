package replica_test

import (
	"reflect"
	"testing"

	"sluice/api"
)

// begun is the replica 0, with some rights of k (a cap of 10), and a call whose epoch (1, 0) the others were told of.
func begun(t *testing.T, has api.Rights, o api.Op) *bench {
	t.Helper()
	b := first(t)
	b.hear(1, give("k", 10, has))
	wantMails(t, b.waits(0, o), both(mark("k", 10, at(1, 0)))...)
	return b
}

// The own epoch is decided just when what was gathered and what is held add up to the cap.
func TestP1407HasAll(t *testing.T) {
	b := begun(t, rights(1, 2), read("k"))
	wantQuiet(t, b.hear(1, yield("k", 10, at(1, 0), rights(2, 1), 0)))
	wantQuiet(t, b.hear(2, yield("k", 10, at(1, 0), rights(1, 1), 1)))
	acts := b.hear(1, give("k", 10, rights(1, 0)))
	wantReplies(t, acts, reply(id(0, 1), api.OK, 5))
	wantEffects(t, acts, effect(id(0, 1), read("k"), api.OK, 5))
}

// It needs no report of one that has nothing to report; and an older report is not added to a later one.
func TestP1407WithoutReport(t *testing.T) {
	b := begun(t, rights(1, 2), read("k"))
	wantReplies(t, b.hear(2, yield("k", 10, at(1, 0), rights(3, 4), 0)), reply(id(0, 1), api.OK, 4))
	b = begun(t, rights(1, 2), read("k"))
	wantQuiet(t, b.hear(2, yield("k", 10, at(1, 0), rights(3, 0), 3)))
	wantQuiet(t, b.hear(2, yield("k", 10, at(1, 0), rights(1, 0), 2)))
	wantReplies(t, b.hear(2, yield("k", 10, at(1, 0), rights(0, 2), 1)), reply(id(0, 1), api.OK, 5))
}

// Rights count whatever epoch their message names; a report counts for the epoch that it names alone.
func TestP1407Reports(t *testing.T) {
	b := begun(t, rights(1, 2), read("k"))
	wantQuiet(t, b.hear(1, yield("k", 10, at(2, 0), rights(3, 0), 2)))
	wantQuiet(t, b.hear(1, yield("k", 10, at(1, 2), rights(0, 1), 2)))
	wantQuiet(t, b.hear(2, abort("k", 10, at(7, 2), rights(0, 1))))
	b.wantStock(api.Stock{Name: "k", Cap: 10, Got: rights(4, 4), Live: []api.Epoch{at(1, 0)}, Own: at(1, 0), About: 4})
	wantReplies(t, b.hear(1, yield("k", 10, at(1, 0), rights(0, 0), 2)), reply(id(0, 1), api.OK, 4))
}

// The own holds count; they stay as they are, and so does what others hold.
func TestP1407OwnHolds(t *testing.T) {
	b := first(t)
	b.hear(1, give("k", 10, rights(5, 0)))
	b.want(0, op(api.OpHold, "k", 2, 3), api.OK, 16)
	b.waits(0, read("k"))
	acts := b.hear(1, yield("k", 10, at(1, 0), rights(0, 4), 1))
	wantReplies(t, acts, reply(id(0, 2), api.OK, 3))
	wantMails(t, acts, both(grant("k", 10, at(1, 0), rights(1, 1)))...)
	b.wantStock(api.Stock{Name: "k", Cap: 10, Rights: rights(1, 2), Held: 2, About: 1})
}

// For an OpRecap every other replica must have reported, though all rights are here.
func TestP1407RecapNeedsAll(t *testing.T) {
	b := begun(t, rights(4, 6), recap("k", 12))
	wantQuiet(t, b.hear(2, yield("k", 10, at(1, 0), rights(0, 0), 0)))
	wantQuiet(t, b.hear(2, yield("k", 10, at(1, 0), rights(0, 0), 0)))
	wantQuiet(t, b.hear(1, yield("k", 10, at(1, 1), rights(0, 0), 0)))
	acts := b.hear(1, yield("k", 10, at(1, 0), rights(0, 0), 0))
	wantReplies(t, acts, reply(id(0, 1), api.OK, 12))
}

// A cap that is heard of may be what was waited for, by whatever message it comes.
func TestP1407CapHeard(t *testing.T) {
	for _, m := range []api.Msg{
		recapped(mark("k", 7, at(1, 0)), 1), // of the own rank: it says nothing of epochs
		recapped(told(id(0, 9), "k", api.OK, 7), 1),
		recapped(told(id(0, 9), "k", api.ErrExists, 7), 1),
		recapped(want("k", 7, rights(1, 1)), 1),
		digest(api.View{Name: "k", Cap: 7, Recaps: 1, Version: 1}),
		digest(api.View{Name: "k", Cap: 7, Recaps: 1}), // not a right view: its cap is heard all the same
	} {
		b := begun(t, rights(3, 4), read("k"))
		wantReplies(t, b.hear(2, m), reply(id(0, 1), api.OK, 3))
	}
}

// One is told of an epoch: all rights and what is held go to its initiator, once.
func TestP1407Yield(t *testing.T) {
	b := first(t)
	b.want(0, create("a", 10, 4), api.OK, 0)
	b.want(0, op(api.OpHold, "a", 1, 5), api.OK, 16)
	wantMails(t, b.hear(2, mark("a", 10, at(1, 2))), mail{2, yield("a", 10, at(1, 2), rights(3, 6), 1)})
	b.wantStock(api.Stock{Name: "a", Cap: 10, Held: 1, Live: []api.Epoch{at(1, 2)}})
	wantQuiet(t, b.hear(2, mark("a", 10, at(1, 2))))
	wantQuiet(t, b.hear(1, mark("a", 10, at(1, 1)))) // a lower one: it gets no report
	wantQuiet(t, b.hear(1, give("a", 10, rights(0, 0))))
	wantQuiet(t, b.hear(2, grant("a", 10, at(1, 0), rights(0, 0)))) // an end of the own rank says nothing
	b.waits(0, dec("a", 1))
	wantMails(t, b.hear(1, give("a", 10, rights(2, 1))), mail{2, yield("a", 10, at(1, 2), rights(2, 1), 1)})
	wantMails(t, b.hear(1, yield("a", 10, at(9, 0), rights(0, 1), 5)), mail{2, yield("a", 10, at(1, 2), rights(0, 1), 1)})
	b.wantStock(api.Stock{Name: "a", Cap: 10, Held: 1, Live: []api.Epoch{at(1, 1), at(1, 2)}, Wait: 1})
}

// Whenever the target is another one, higher or lower, there is a report, though no rights are left.
func TestP1407TargetChanges(t *testing.T) {
	b := first(t)
	b.want(0, create("a", 10, 4), api.OK, 0)
	wantMails(t, b.hear(1, mark("a", 10, at(1, 1))), mail{1, yield("a", 10, at(1, 1), rights(4, 6), 0)})
	wantMails(t, b.hear(2, mark("a", 10, at(1, 2))), mail{2, yield("a", 10, at(1, 2), rights(0, 0), 0)})
	wantMails(t, b.hear(1, mark("a", 10, at(2, 1))), mail{1, yield("a", 10, at(2, 1), rights(0, 0), 0)})
	wantMails(t, b.hear(1, abort("a", 10, at(2, 1), rights(1, 1))), mail{2, yield("a", 10, at(1, 2), rights(1, 1), 0)})
	wantMails(t, b.hear(1, mark("a", 10, at(3, 1))), mail{1, yield("a", 10, at(3, 1), rights(0, 0), 0)})
	wantMails(t, b.hear(1, over("a", 10, at(3, 1), at(1, 2))), mail{2, yield("a", 10, at(1, 2), rights(0, 0), 0)})
	wantMails(t, b.hear(2, over("a", 10, at(1, 2), at(4, 1))), mail{1, yield("a", 10, at(4, 1), rights(0, 0), 0)})
	wantQuiet(t, b.hear(1, grant("a", 10, at(4, 1), rights(1, 2))))
	b.wantStock(api.Stock{Name: "a", Cap: 10, Rights: rights(1, 2), About: 1})
	wantMails(t, b.hear(1, mark("a", 10, at(5, 1))), mail{1, yield("a", 10, at(5, 1), rights(1, 2), 0)})
}

// Late messages freeze nothing, and what has finished stays so.
func TestP1407Late(t *testing.T) {
	b := first(t)
	b.want(0, create("a", 10, 4), api.OK, 0)
	wantQuiet(t, b.hear(1, grant("a", 10, at(3, 1), rights(0, 0))))
	for _, m := range []api.Msg{mark("a", 10, at(3, 1)), mark("a", 10, at(1, 1)), over("a", 10, at(2, 1), at(1, 1)), mark("a", 10, at(9, 0)), mark("a", 10, at(9, 3)), mark("a", 10, at(9, 15))} {
		wantQuiet(t, b.hear(2, m))
	}
	b.wantStock(api.Stock{Name: "a", Cap: 10, Rights: rights(4, 6), About: 4})
	wantMails(t, b.hear(2, mark("a", 10, at(1, 2))), mail{2, yield("a", 10, at(1, 2), rights(4, 6), 0)})
	// the next own round is above all of which it was told
	wantQuiet(t, b.hear(2, abort("a", 10, at(1, 2), rights(4, 5))))
	wantMails(t, b.waits(0, read("a")), both(mark("a", 10, at(4, 0)))...)
}

// A counter that is not frozen any more: holds that are due go first, by rising numbers, then the line in its order.
func TestP1407Thaw(t *testing.T) {
	b := first(t)
	b.want(0, create("a", 10, 6), api.OK, 0)
	b.want(0, op(api.OpHold, "a", 2, 4), api.OK, 16)
	b.want(0, op(api.OpHold, "a", 3, 3), api.OK, 32)
	b.hear(1, mark("a", 10, at(1, 1)))
	b.waits(0, dec("a", 4))
	b.waits(3, op(api.OpCommit, "a", 32))
	b.waits(0, inc("a", 9))
	b.waits(3, dec("a", 1))
	wantEffects(t, b.ticks(4)) // no time ends a hold while the counter is frozen
	b.listen(1)
	b.listen(2)
	acts := b.hear(1, grant("a", 10, at(1, 1), rights(0, 1)))
	wantEffects(t, acts,
		expired("a", 16), expired("a", 32),
		effect(id(0, 4), dec("a", 4), api.OK, 0),
		effect(id(3, 1), op(api.OpCommit, "a", 32), api.ErrHold, 0),
		effect(id(3, 2), dec("a", 1), api.OK, 0))
	wantReplies(t, acts, reply(id(0, 4), api.OK, 0), reply(id(3, 1), api.ErrHold, 0), reply(id(0, 5), api.ErrRights, 0), reply(id(3, 2), api.OK, 0))
	b.wantOpen()
	b.wantStock(api.Stock{Name: "a", Cap: 10, Rights: rights(0, 6)})
	// what the third one has lacked is asked for
	b.hear(2, digest(view("a", 10, 1, rights(0, 3))))
	wantSentTo(t, b.tick(), 2, want("a", 10, rights(0, 3)))
}

// A hold that is not due goes on being held.
func TestP1407ThawEarly(t *testing.T) {
	b := first(t)
	b.want(0, create("a", 10, 6), api.OK, 0)
	b.want(0, op(api.OpHold, "a", 2, 4), api.OK, 16)
	b.want(0, op(api.OpHold, "a", 3, 3), api.OK, 32)
	b.hear(1, mark("a", 10, at(1, 1)))
	b.ticks(3)
	wantEffects(t, b.hear(1, grant("a", 10, at(1, 1), rights(0, 0))), expired("a", 32))
	wantEffects(t, b.tick(), expired("a", 16))
}

// The first exact op of the line begins an epoch; the others wait on.
func TestP1407LineBegins(t *testing.T) {
	b := first(t)
	b.want(0, create("a", 10, 6), api.OK, 0)
	b.hear(1, mark("a", 10, at(1, 1)))
	b.waits(0, dec("a", 1))
	b.waits(3, read("a"))
	b.waits(0, dec("a", 1))
	acts := b.hear(1, abort("a", 10, at(1, 1), rights(3, 2)))
	wantReplies(t, acts, reply(id(0, 2), api.OK, 0))
	wantMails(t, acts, both(mark("a", 10, at(2, 0)))...)
	b.wantStock(api.Stock{Name: "a", Cap: 10, Got: rights(2, 3), Live: []api.Epoch{at(2, 0)}, Own: at(2, 0), Wait: 1, About: 2})
	b.wantOpen(id(0, 3), id(3, 1))
}

// Where all rights have come back, the line is decided at once, up to an OpRecap, which tells all others.
func TestP1407LineAtOnce(t *testing.T) {
	b := first(t)
	b.want(0, create("a", 10, 6), api.OK, 0)
	b.hear(1, mark("a", 10, at(1, 1)))
	b.waits(0, read("a"))
	b.waits(3, dec("a", 9))
	b.waits(3, recap("a", 9))
	b.waits(3, dec("a", 1))
	acts := b.hear(1, abort("a", 10, at(1, 1), rights(6, 4)))
	wantReplies(t, acts, reply(id(0, 2), api.OK, 6), reply(id(3, 1), api.ErrRights, 0))
	wantEffects(t, acts, effect(id(0, 2), read("a"), api.OK, 6), effect(id(3, 1), dec("a", 9), api.ErrRights, 0))
	wantMails(t, acts, both(mark("a", 10, at(3, 0)))...)
	b.wantStock(api.Stock{Name: "a", Cap: 10, Got: rights(6, 4), Live: []api.Epoch{at(3, 0)}, Own: at(3, 0), Wait: 1, About: 6})
}

// In the line an epoch that can't begin is the call's answer, and the next one's turn comes.
func TestP1407LineLong(t *testing.T) {
	b := first(t)
	b.want(0, create("a", 10, 6), api.OK, 0)
	b.hear(1, mark("a", 10, at(maxRound, 1)))
	b.waits(0, read("a"))
	b.waits(0, dec("a", 1))
	acts := b.hear(1, abort("a", 10, at(maxRound, 1), rights(1, 0)))
	wantReplies(t, acts, reply(id(0, 2), api.ErrLong, 0), reply(id(0, 3), api.OK, 0))
	wantEffects(t, acts, effect(id(0, 3), dec("a", 1), api.OK, 0))
	b.wantOpen()
}

// Behind a decision a lower epoch that is still live gets a report, with the own part.
func TestP1407LowerBehindOwn(t *testing.T) {
	b := first(t)
	b.hear(1, give("k", 10, rights(4, 1)), abort("k", 10, at(3, 1), rights(0, 0)))
	wantMails(t, b.waits(0, read("k")), both(mark("k", 10, at(4, 0)))...)
	wantQuiet(t, b.hear(2, mark("k", 10, at(3, 2))))
	b.waits(0, dec("k", 1))
	acts := b.hear(1, yield("k", 10, at(4, 0), rights(2, 3), 0))
	wantReplies(t, acts, reply(id(0, 1), api.OK, 6), reply(id(0, 2), api.OK, 0))
	wantMails(t, acts,
		mail{1, grant("k", 10, at(4, 0), rights(2, 2))},
		mail{2, grant("k", 10, at(4, 0), rights(1, 1))},
		mail{2, yield("k", 10, at(3, 2), rights(2, 2), 0)})
	b.wantStock(api.Stock{Name: "k", Cap: 10, Live: []api.Epoch{at(3, 2)}})
}

// Giving up: all are told, the op goes to the front of the line, and all that was gathered goes to the higher epoch.
func TestP1407GiveUp(t *testing.T) {
	b := begun(t, rights(4, 1), read("k"))
	b.waits(3, dec("k", 1))
	b.hear(2, yield("k", 10, at(1, 0), rights(1, 1), 1))
	acts := b.hear(1, mark("k", 10, at(1, 1)))
	wantMails(t, acts,
		mail{1, over("k", 10, at(1, 0), at(1, 1))},
		mail{1, yield("k", 10, at(1, 1), rights(5, 2), 0)},
		mail{2, over("k", 10, at(1, 0), at(1, 1))})
	wantReplies(t, acts)
	b.wantStock(api.Stock{Name: "k", Cap: 10, Live: []api.Epoch{at(1, 1)}, Wait: 2})
	b.wantOpen(id(0, 1), id(3, 1))
	// the reports to the epoch that was given up are forgotten; the op begins another one, ahead of the line
	acts = b.hear(1, grant("k", 10, at(1, 1), rights(3, 0)))
	wantReplies(t, acts)
	wantMails(t, acts, both(mark("k", 10, at(2, 0)))...)
	b.wantStock(api.Stock{Name: "k", Cap: 10, Got: rights(3, 0), Live: []api.Epoch{at(2, 0)}, Own: at(2, 0), Wait: 1, About: 3})
	wantQuiet(t, b.hear(2, yield("k", 10, at(2, 0), rights(0, 6), 0)))
	acts = b.hear(1, yield("k", 10, at(2, 0), rights(1, 0), 0))
	wantReplies(t, acts, reply(id(0, 1), api.OK, 4), reply(id(3, 1), api.OK, 0))
}

// What was given up and is decided at once then is nobody else's any more: no message goes.
func TestP1407GiveUpThenAtOnce(t *testing.T) {
	b := begun(t, rights(4, 1), read("k"))
	b.hear(1, mark("k", 10, at(1, 1)))
	acts := b.hear(1, grant("k", 10, at(1, 1), rights(7, 3)))
	wantReplies(t, acts, reply(id(0, 1), api.OK, 7))
	wantMails(t, acts)
	b.wantStock(api.Stock{Name: "k", Cap: 10, Rights: rights(7, 3), About: 7})
}

// A higher epoch in a MsgOver leads to giving up as well; a lower one does not.
func TestP1407GiveUpByOver(t *testing.T) {
	b := begun(t, rights(4, 1), read("k"))
	wantQuiet(t, b.hear(2, over("k", 10, at(1, 2), at(1, 0))))
	acts := b.hear(2, over("k", 10, at(2, 2), at(2, 1)))
	wantMails(t, acts,
		mail{1, over("k", 10, at(1, 0), at(2, 1))},
		mail{1, yield("k", 10, at(2, 1), rights(4, 1), 0)},
		mail{2, over("k", 10, at(1, 0), at(2, 1))})
	if s := b.stock("k"); s.Own != at(0, 0) || s.Wait != 1 {
		t.Errorf("%+v", s)
	}
}

// gatherAll is what others yield, so that the value is down and all 10 are here; has is what is here already.
func (b *bench) gatherAll(round, down, has int) api.Acts {
	b.t.Helper()
	return b.hear(1, yield("k", 10, at(round, 0), rights(down, 10-has-down), 0))
}

// Each exact op, by all rights: its answer, its effect, and what the rights are then.
func TestP1408Exact(t *testing.T) {
	for _, x := range []struct {
		o     api.Op
		held  int // elsewhere, of the cap 10; the value is 4
		e     api.Errno
		value int
		after api.Rights
		limit int
	}{
		{read("k"), 3, api.OK, 4, rights(4, 3), 10},
		{op(api.OpTake, "k", 4, 4), 3, api.OK, 4, rights(0, 7), 10},
		{op(api.OpTake, "k", 4, 1), 0, api.OK, 4, rights(3, 7), 10},
		{op(api.OpTake, "k", 4, 5), 0, api.ErrRights, 0, rights(4, 6), 10},
		{op(api.OpTake, "k", 5, 5), 0, api.ErrMismatch, 0, rights(4, 6), 10},
		{op(api.OpTake, "k", 3, 5), 0, api.ErrMismatch, 0, rights(4, 6), 10},
		{op(api.OpReset, "k", 7), 3, api.OK, 7, rights(7, 0), 10},
		{op(api.OpReset, "k", 0), 3, api.OK, 0, rights(0, 7), 10},
		{op(api.OpReset, "k", 8), 3, api.ErrCap, 0, rights(4, 3), 10},
		{recap("k", 20), 3, api.OK, 20, rights(4, 13), 20},
		{recap("k", 7), 3, api.OK, 7, rights(4, 0), 7},
		{recap("k", 10), 3, api.OK, 10, rights(4, 3), 10},
		{recap("k", 6), 3, api.ErrCap, 0, rights(4, 3), 10},
		{recap("k", maxCap), 0, api.OK, maxCap, rights(4, maxCap-4), maxCap},
	} {
		b := begun(t, rights(4, 0), x.o)
		wantQuiet(t, b.hear(2, yield("k", 10, at(1, 0), rights(0, 0), x.held)))
		acts := b.hear(1, yield("k", 10, at(1, 0), rights(0, 6-x.held), 0))
		wantReplies(t, acts, reply(id(0, 1), x.e, x.value))
		wantEffects(t, acts, effect(id(0, 1), x.o, x.e, x.value))
		list := mails(t, acts)
		if len(list) != 2 {
			t.Fatalf("%+v: sent %+v", x.o, list)
		}
		got := b.stock("k").Rights
		for _, l := range list {
			got = rights(got.Down+l.m.Rights.Down, got.Up+l.m.Rights.Up)
			recaps := 0
			if x.o.Kind == api.OpRecap && x.e == api.OK {
				recaps = 1
			}
			if l.m.Cap != x.limit || l.m.Recaps != recaps {
				t.Errorf("%+v: the cap %d, %d", x.o, l.m.Cap, l.m.Recaps)
			}
		}
		if s := b.stock("k"); got != x.after || s.Cap != x.limit || len(s.Live) != 0 {
			t.Errorf("%+v: %+v in all, %+v", x.o, got, s)
		}
	}
}

// What is over goes to the lower places first; each part goes with MsgGrant, one of nothing too; the own part stays.
func TestP1408Deal(t *testing.T) {
	b := begun(t, rights(1, 0), read("k"))
	acts := b.hear(2, yield("k", 10, at(1, 0), rights(4, 5), 0))
	wantMails(t, acts, mail{1, grant("k", 10, at(1, 0), rights(2, 2))}, mail{2, grant("k", 10, at(1, 0), rights(1, 1))})
	b.wantStock(api.Stock{Name: "k", Cap: 10, Rights: rights(2, 2), About: 2})
	b = first(t)
	b.hear(1, give("k", 1, rights(1, 0)))
	wantReplies(t, b.call(0, read("k")), reply(id(0, 1), api.OK, 1))
	b.want(0, op(api.OpHold, "k", 1, 1000), api.OK, 16)
	b.waits(0, recap("k", 2))
	b.hear(1, yield("k", 1, at(2, 0), rights(0, 0), 0))
	acts = b.hear(2, yield("k", 1, at(2, 0), rights(0, 0), 0))
	none := recapped(grant("k", 2, at(2, 0), rights(0, 0)), 1)
	wantMails(t, acts, both(none)...)
	b.wantStock(api.Stock{Name: "k", Cap: 2, Recaps: 1, Rights: rights(0, 1), Held: 1})
}

// The middle one of the replicas keeps the middle part.
func TestP1408DealFromMiddle(t *testing.T) {
	b := placed(t, config(), 1)
	b.want(1, create("k", 10, 5), api.OK, 0)
	b.waits(1, recap("k", 11))
	b.hear(0, yield("k", 10, at(1, 1), rights(0, 0), 0))
	acts := b.hear(2, yield("k", 10, at(1, 1), rights(0, 0), 0))
	wantMails(t, acts, mail{0, recapped(grant("k", 11, at(1, 1), rights(2, 2)), 1)}, mail{2, recapped(grant("k", 11, at(1, 1), rights(1, 2)), 1)})
	b.wantStock(api.Stock{Name: "k", Cap: 11, Recaps: 1, Rights: rights(2, 2), About: 2})
}

// The line is decided behind the own call, one behind the other, each by all rights. What hangs on this replica alone is
// no effect.
func TestP1408Line(t *testing.T) {
	c := config()
	c.Queue = 32
	b := placed(t, c, 0)
	b.hear(1, give("k", 10, rights(4, 0)))
	b.want(0, op(api.OpHold, "k", 1, 1000), api.OK, 16)
	b.waits(0, op(api.OpReset, "k", 5))
	lined := []struct {
		o      api.Op
		e      api.Errno
		value  int
		effect bool
	}{
		{dec("k", 6), api.ErrRights, 0, true},
		{dec("k", 5), api.OK, 0, true},
		{read("k"), api.OK, 0, true},
		{inc("k", 10), api.ErrRights, 0, true},
		{inc("k", 8), api.OK, 0, true},
		{op(api.OpHold, "k", 9, 7), api.ErrRights, 0, false},
		{op(api.OpHold, "k", 2, 7), api.OK, 32, true},
		{op(api.OpHold, "k", 1, 7), api.ErrHolds, 0, false},
		{op(api.OpCommit, "k", 17), api.ErrReplica, 0, false},
		{op(api.OpCommit, "k", 48), api.ErrHold, 0, true},
		{op(api.OpCommit, "k", 16), api.OK, 1, true},
		{op(api.OpRelease, "k", 18), api.ErrReplica, 0, false},
		{op(api.OpTake, "k", 6, 7), api.ErrRights, 0, true},
		{op(api.OpTake, "k", 6, 2), api.OK, 6, true},
		{op(api.OpReset, "k", 9), api.ErrCap, 0, true},
		{op(api.OpReset, "k", 3), api.OK, 3, true},
		{read("k"), api.OK, 3, true},
	}
	replies := []api.Reply{reply(id(0, 2), api.OK, 5)}
	effects := []api.Effect{effect(id(0, 2), op(api.OpReset, "k", 5), api.OK, 5)}
	for i, x := range lined {
		b.waits(3, x.o)
		replies = append(replies, reply(id(3, i+1), x.e, x.value))
		if x.effect {
			effects = append(effects, effect(id(3, i+1), x.o, x.e, x.value))
		}
	}
	b.hear(2, digest(view("k", 10, 1, rights(9, 9))))
	acts := b.hear(1, yield("k", 10, at(1, 0), rights(0, 6), 0))
	wantReplies(t, acts, replies...)
	wantEffects(t, acts, effects...)
	wantMails(t, acts, mail{1, grant("k", 10, at(1, 0), rights(1, 2))}, mail{2, grant("k", 10, at(1, 0), rights(1, 1))})
	b.wantOpen()
	// nothing was lacked
	wantSentTo(t, b.tick(), 2)
	wantEffects(t, b.ticks(6), expired("k", 32))
}

// An OpRecap of the line, and those behind it, wait on where not all have reported; else it is decided with the others.
func TestP1408LineRecap(t *testing.T) {
	for _, all := range []bool{false, true} {
		b := begun(t, rights(4, 0), read("k"))
		b.waits(3, dec("k", 1))
		b.waits(3, recap("k", 20))
		b.waits(3, inc("k", 12))
		if all {
			wantQuiet(t, b.hear(2, yield("k", 10, at(1, 0), rights(0, 0), 0)))
		}
		acts := b.hear(1, yield("k", 10, at(1, 0), rights(0, 6), 0))
		replies := []api.Reply{reply(id(0, 1), api.OK, 4), reply(id(3, 1), api.OK, 0)}
		if all {
			wantReplies(t, acts, append(replies, reply(id(3, 2), api.OK, 20), reply(id(3, 3), api.OK, 0))...)
			wantMails(t, acts, mail{1, recapped(grant("k", 20, at(1, 0), rights(5, 2)), 1)}, mail{2, recapped(grant("k", 20, at(1, 0), rights(5, 1)), 1)})
			b.wantOpen()
			continue
		}
		wantReplies(t, acts, replies...)
		wantMails(t, acts,
			mail{1, grant("k", 10, at(1, 0), rights(1, 2))}, mail{1, mark("k", 10, at(2, 0))},
			mail{2, grant("k", 10, at(1, 0), rights(1, 2))}, mail{2, mark("k", 10, at(2, 0))})
		b.wantOpen(id(3, 2), id(3, 3))
		b.wantStock(api.Stock{Name: "k", Cap: 10, Got: rights(1, 3), Live: []api.Epoch{at(2, 0)}, Own: at(2, 0), Wait: 1, About: 1})
	}
}

// A hold that is made in a decision ends so many ticks behind it.
func TestP1408HoldInDecision(t *testing.T) {
	b := begun(t, rights(4, 0), read("k"))
	b.waits(3, op(api.OpHold, "k", 2, 3))
	b.ticks(2)
	acts := b.gatherAll(1, 0, 4)
	wantReplies(t, acts, reply(id(0, 1), api.OK, 4), reply(id(3, 1), api.OK, 16))
	wantEffects(t, b.ticks(3), expired("k", 16))
}

// Holds whose time is over in a frozen counter may still be committed by the own decision.
func TestP1408DueHold(t *testing.T) {
	b := first(t)
	b.hear(1, give("k", 10, rights(4, 0)))
	b.want(0, op(api.OpHold, "k", 1, 2), api.OK, 16)
	b.want(0, op(api.OpHold, "k", 1, 2), api.OK, 32)
	b.waits(0, read("k"))
	b.waits(0, op(api.OpCommit, "k", 32))
	wantEffects(t, b.ticks(3))
	acts := b.gatherAll(1, 0, 4)
	wantEffects(t, acts,
		effect(id(0, 3), read("k"), api.OK, 2),
		effect(id(0, 4), op(api.OpCommit, "k", 32), api.OK, 1),
		expired("k", 16))
}

// An asked call that is late is asked no more; the home's word comes to nothing.
func TestP1409Asked(t *testing.T) {
	b := first(t)
	b.waits(0, dec("k", 1))
	acts := b.ticks(20)
	wantReplies(t, acts, reply(id(0, 1), api.ErrTimeout, 0))
	wantEffects(t, acts)
	b.wantOpen()
	wantQuiet(t, b.hear(1, told(id(0, 1), "k", api.OK, 10)))
	if !b.knows("k") {
		t.Error("the word's name is not known")
	}
}

// Its MsgAsk is taken out of the outbox, if it stands there still; those of others stay.
func TestP1409AskedInOutbox(t *testing.T) {
	c := config()
	c.Window = 1
	b := placed(t, c, 0)
	b.waits(0, dec("k", 1))
	b.waits(0, dec("k", 2))
	b.tick()
	b.waits(0, dec("k", 3))
	if out := b.r.See().Out[1]; len(out) != 2 {
		t.Fatalf("the outbox %+v", out)
	}
	acts := b.ticks(19)
	wantReplies(t, acts, reply(id(0, 1), api.ErrTimeout, 0), reply(id(0, 2), api.ErrTimeout, 0))
	if out := b.r.See().Out[1]; len(out) != 1 || out[0].Call != id(0, 3) {
		t.Errorf("the outbox %+v", out)
	}
	wantMails(t, b.listen(1), mail{1, ask(id(0, 3), dec("k", 3))})
}

// A call in the line leaves it; the others stay in their order.
func TestP1409Line(t *testing.T) {
	b := first(t)
	b.want(0, create("a", 10, 4), api.OK, 0)
	b.hear(1, mark("a", 10, at(1, 1)))
	b.waits(0, dec("a", 1))
	b.waits(0, inc("a", 1))
	b.tick()
	b.waits(3, dec("a", 2))
	b.waits(3, dec("a", 3))
	acts := b.ticks(19)
	wantReplies(t, acts, reply(id(0, 2), api.ErrTimeout, 0), reply(id(0, 3), api.ErrTimeout, 0))
	wantEffects(t, acts)
	if s := b.stock("a"); s.Wait != 2 {
		t.Errorf("%d wait", s.Wait)
	}
	b.wantOpen(id(3, 1), id(3, 2))
	acts = b.hear(1, grant("a", 10, at(1, 1), rights(4, 6)))
	wantReplies(t, acts, reply(id(3, 1), api.OK, 0), reply(id(3, 2), api.ErrRights, 0))
}

// wantSentTo asserts which messages go to a replica, a digest left aside.
func wantSentTo(t *testing.T, acts api.Acts, to int, want ...api.Msg) {
	t.Helper()
	var got []api.Msg
	for _, l := range mails(t, acts) {
		if l.to == to && l.m.Kind != api.MsgDigest {
			got = append(got, l.m)
		}
	}
	if len(got)+len(want) > 0 && !reflect.DeepEqual(got, want) {
		t.Errorf("sent to %d:\n%+v\nwant:\n%+v", to, got, want)
	}
}

// patient is a replica whose links send nothing again on the way.
func patient(t *testing.T) *bench {
	t.Helper()
	c := config()
	c.Resend, c.Window = 1000, 16
	return placed(t, c, 0)
}

// The call of the own epoch is late: the rights are dealt out with MsgAbort, and the line's turn comes.
func TestP1409Own(t *testing.T) {
	b := patient(t)
	b.hear(1, give("k", 10, rights(5, 1)))
	b.waits(0, read("k"))
	b.tick()
	b.waits(3, dec("k", 1))
	b.waits(3, read("k"))
	for range 18 {
		b.tick()
	}
	b.listen(1)
	b.listen(2)
	acts := b.tick()
	wantReplies(t, acts, reply(id(0, 1), api.ErrTimeout, 0), reply(id(3, 1), api.OK, 0))
	wantEffects(t, acts, effect(id(3, 1), dec("k", 1), api.OK, 0))
	for to, part := range map[int]api.Rights{1: rights(2, 0), 2: rights(1, 0)} {
		wantSentTo(t, acts, to, abort("k", 10, at(1, 0), part), mark("k", 10, at(2, 0)))
	}
	b.wantStock(api.Stock{Name: "k", Cap: 10, Got: rights(1, 2), Live: []api.Epoch{at(2, 0)}, Own: at(2, 0), About: 1})
}

// Several that are due in one tick, in the order in which they were taken: one that the first has led to an answer of is
// passed over; one that begins an epoch meanwhile is aborted in turn, and the two messages are merged.
func TestP1409Several(t *testing.T) {
	b := patient(t)
	b.hear(1, give("k", 10, rights(5, 1)))
	b.waits(6, dec("q", 1))
	b.waits(0, read("k"))
	b.waits(3, dec("k", 1))
	b.waits(3, op(api.OpReset, "k", 0))
	for range 19 {
		b.tick()
	}
	b.listen(1)
	b.listen(2)
	acts := b.tick()
	wantReplies(t, acts,
		reply(id(6, 1), api.ErrTimeout, 0), reply(id(0, 1), api.ErrTimeout, 0),
		reply(id(3, 1), api.OK, 0), reply(id(3, 2), api.ErrTimeout, 0))
	wantEffects(t, acts, effect(id(3, 1), dec("k", 1), api.OK, 0))
	for to, part := range map[int]api.Rights{1: rights(2, 1), 2: rights(1, 0)} {
		wantSentTo(t, acts, to, abort("k", 10, at(2, 0), part), mark("k", 10, at(2, 0)))
	}
	b.wantOpen()
	b.wantStock(api.Stock{Name: "k", Cap: 10, Rights: rights(1, 1), About: 1})
}

// An op that was given up for a higher epoch runs out of time in the line.
func TestP1409GivenUp(t *testing.T) {
	b := patient(t)
	b.hear(1, give("k", 10, rights(5, 1)))
	b.waits(0, read("k"))
	b.hear(2, mark("k", 10, at(1, 2)))
	b.listen(1)
	acts := b.ticks(20)
	wantReplies(t, acts, reply(id(0, 1), api.ErrTimeout, 0))
	b.wantStock(api.Stock{Name: "k", Cap: 10, Live: []api.Epoch{at(1, 2)}})
	wantSentTo(t, acts, 2)
}

// A call of the line may be older than the one that the own epoch is for: that goes on.
func TestP1409OlderThanOwn(t *testing.T) {
	b := patient(t)
	b.waits(0, dec("k", 1))
	b.ticks(5)
	b.hear(1, give("k", 10, rights(3, 3)))
	b.waits(3, read("k"))
	b.hear(1, told(id(0, 1), "k", api.OK, 10))
	b.listen(2)
	acts := b.ticks(15)
	wantReplies(t, acts, reply(id(0, 1), api.ErrTimeout, 0))
	wantSentTo(t, acts, 1)
	wantSentTo(t, acts, 2)
	b.wantStock(api.Stock{Name: "k", Cap: 10, Got: rights(3, 3), Live: []api.Epoch{at(1, 0)}, Own: at(1, 0), About: 3})
	wantReplies(t, b.ticks(5), reply(id(3, 1), api.ErrTimeout, 0))
}

// Timeout at its bounds: 1, and 1000.
func TestP1409Bounds(t *testing.T) {
	for _, timeout := range []int{1, 2, 1000} {
		c := config()
		c.Timeout = timeout
		b := placed(t, c, 0)
		b.waits(0, dec("k", 1))
		wantReplies(t, b.ticks(timeout), reply(id(0, 1), api.ErrTimeout, 0))
	}
}

// A counter whose own epoch runs out of time: holds that are due end behind it, ahead of what the tick does else.
func TestP1409Holds(t *testing.T) {
	b := patient(t)
	b.hear(1, give("k", 10, rights(5, 1)))
	b.want(0, create("a", 10, 4), api.OK, 0)
	b.want(0, op(api.OpHold, "k", 2, 10), api.OK, 16)
	b.waits(0, read("k"))
	b.want(0, op(api.OpHold, "a", 2, 20), api.OK, 16)
	wantEffects(t, b.ticks(20), expired("k", 16), expired("a", 16))
}
