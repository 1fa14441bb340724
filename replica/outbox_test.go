package replica_test

import (
	"reflect"
	"testing"

	"sluice/api"
)

// choked is the replica 0 with a window of 1, which hears no acknowledgement: one message goes to each peer, and all
// others stand in the outbox.
func choked(t *testing.T) *bench {
	t.Helper()
	c := config()
	c.Window, c.Resend = 1, 1000
	b := placed(t, c, 0)
	b.deaf = true
	return b
}

func (b *bench) wantOut(to int, want ...api.Msg) {
	b.t.Helper()
	if got := b.r.See().Out[to]; len(got)+len(want) > 0 && !reflect.DeepEqual(got, want) {
		b.t.Errorf("the outbox for %d:\n%+v\nwant:\n%+v", to, got, want)
	}
}

// Rights of one kind and name add up, in the place of the first; other names and other kinds stand by themselves.
func TestP1410Give(t *testing.T) {
	b := choked(t)
	b.want(0, create("a", 100, 60), api.OK, 0)
	b.want(0, create("b", 50, 20), api.OK, 0)
	wantMails(t, b.hear(1, want("a", 100, rights(1, 0))), mail{1, give("a", 100, rights(1, 0))})
	b.wantOut(1)
	wantMails(t, b.hear(1, want("a", 100, rights(2, 1)), want("b", 50, rights(1, 1)), want("a", 100, rights(3, 4))))
	b.wantOut(1, give("a", 100, rights(5, 5)), give("b", 50, rights(1, 1)))
	wantMails(t, b.hear(2, want("a", 100, rights(7, 0))), mail{2, give("a", 100, rights(7, 0))})
	b.hear(2, want("a", 100, rights(8, 0)))
	b.wantOut(2, give("a", 100, rights(8, 0)))
	// by an acknowledgement there is room again, for one at a time
	wantMails(t, b.listen(1), mail{1, give("a", 100, rights(5, 5))})
	b.wantOut(1, give("b", 50, rights(1, 1)))
	b.hear(1, want("a", 100, rights(1, 0)))
	b.wantOut(1, give("b", 50, rights(1, 1)), give("a", 100, rights(1, 0)))
	wantMails(t, b.listen(1), mail{1, give("b", 50, rights(1, 1))})
	b.wantOut(1, give("a", 100, rights(1, 0)))
	wantMails(t, b.listen(1), mail{1, give("a", 100, rights(1, 0))})
	wantMails(t, b.listen(1))
	b.wantOut(1)
	b.wantOut(2, give("a", 100, rights(8, 0)))
}

// Of MsgWant the later one's count; of a digest the later views; each in its place.
func TestP1410WantAndDigest(t *testing.T) {
	c := config()
	c.Replicas, c.Window, c.Resend = 2, 1, 1000
	b := placed(t, c, 0)
	b.deaf = true
	b.want(0, create("a", 100, 60), api.OK, 0)
	b.hear(1, digest(view("a", 200, 1, rights(90, 90))))
	wantMails(t, b.tick(), mail{1, digest(view("a", 100, 1, rights(60, 40)))})
	b.want(0, dec("a", 70), api.ErrRights, 0)
	b.tick()
	b.wantOut(1, want("a", 100, rights(10, 0)), digest(view("a", 100, 1, rights(60, 40))))
	b.want(0, dec("a", 1), api.OK, 0)
	b.want(0, dec("a", 61), api.ErrRights, 0)
	b.want(0, inc("a", 44), api.ErrRights, 0)
	b.tick()
	b.wantOut(1, want("a", 100, rights(2, 3)), digest(view("a", 100, 2, rights(59, 41))))
	b.want(0, create("c", 7, 7), api.OK, 0)
	b.tick()
	b.wantOut(1, want("a", 100, rights(2, 3)), digest(view("a", 100, 2, rights(59, 41)), view("c", 7, 1, rights(7, 0))))
}

// Of MsgYield the higher epoch and the later Held, Cap and Recaps; rights add up.
func TestP1410Yield(t *testing.T) {
	b := choked(t)
	b.hear(2, give("k", 10, rights(0, 0)))
	wantMails(t, b.hear(1, mark("k", 10, at(3, 1))), mail{1, yield("k", 10, at(3, 1), rights(0, 0), 0)})
	b.hear(2, give("k", 10, rights(1, 0)))
	b.wantOut(1, yield("k", 10, at(3, 1), rights(1, 0), 0))
	b.hear(2, recapped(give("k", 12, rights(2, 1)), 1))
	b.wantOut(1, recapped(yield("k", 12, at(3, 1), rights(3, 1), 0), 1))
	// what is there for an epoch that is given up for a higher one of the same initiator
	b.hear(1, mark("k", 10, at(5, 1)))
	b.wantOut(1, recapped(yield("k", 12, at(5, 1), rights(3, 1), 0), 1))
	// and back to one that is not its highest any more
	b.hear(1, grant("k", 10, at(5, 1), rights(4, 0)))
	b.want(0, op(api.OpHold, "k", 1, 5), api.OK, 16)
	b.hear(2, mark("k", 10, at(6, 2)), mark("k", 10, at(7, 2)))
	b.hear(1, mark("k", 10, at(8, 1)))
	b.wantOut(1, recapped(yield("k", 12, at(8, 1), rights(3, 1), 1), 1))
	b.wantOut(2, recapped(yield("k", 12, at(7, 2), rights(0, 0), 1), 1))
}

// Of MsgOver both epochs become the higher ones.
func TestP1410Over(t *testing.T) {
	b := choked(t)
	b.hear(1, give("k", 10, rights(1, 0)))
	b.waits(0, read("k"))
	b.hear(2, mark("k", 10, at(9, 2)))
	b.wantOut(1, over("k", 10, at(1, 0), at(9, 2)))
	b.hear(2, grant("k", 10, at(9, 2), rights(1, 0)))
	b.wantOut(1, over("k", 10, at(1, 0), at(9, 2)), mark("k", 10, at(10, 0)))
	b.hear(1, mark("k", 10, at(10, 1)))
	b.wantOut(1, over("k", 10, at(10, 0), at(10, 1)), mark("k", 10, at(10, 0)), yield("k", 10, at(10, 1), rights(1, 0), 0))
	b.wantOut(2, over("k", 10, at(10, 0), at(10, 1)), yield("k", 10, at(9, 2), rights(1, 0), 0), mark("k", 10, at(10, 0)))
}

// Marks, grants and aborts of several epochs become one each.
func TestP1410MarkGrantAbort(t *testing.T) {
	b := choked(t)
	b.hear(1, give("k", 10, rights(3, 0)))
	b.waits(0, read("k"))
	b.hear(2, yield("k", 10, at(1, 0), rights(0, 7), 0))
	b.wantOut(1, grant("k", 10, at(1, 0), rights(1, 2)))
	b.waits(0, read("k"))
	b.hear(2, yield("k", 10, at(2, 0), rights(2, 4), 0))
	b.wantOut(1, grant("k", 10, at(2, 0), rights(2, 4)), mark("k", 10, at(2, 0)))
	b.waits(0, read("k"))
	b.ticks(20)
	b.waits(0, read("k"))
	wantReplies(t, b.ticks(20), reply(id(0, 4), api.ErrTimeout, 0))
	b.wantOut(1,
		grant("k", 10, at(2, 0), rights(2, 4)), mark("k", 10, at(4, 0)),
		digest(view("k", 10, 3, rights(1, 1))), abort("k", 10, at(4, 0), rights(0, 1)))
}

// MsgAsk and MsgTold are never merged, though they be of one name.
func TestP1410AskTold(t *testing.T) {
	b := choked(t)
	for range 3 {
		b.waits(0, dec("k", 1))
	}
	b.wantOut(1, ask(id(0, 2), dec("k", 1)), ask(id(0, 3), dec("k", 1)))
	b.hear(2, ask(id(2, 1), dec("a", 1)), ask(id(2, 2), dec("a", 1)), ask(id(2, 2), dec("a", 1)))
	b.wantOut(2, told(id(2, 2), "a", api.ErrNone, 0), told(id(2, 2), "a", api.ErrNone, 0))
}

// Of MsgTold no more than Queue stand in one outbox: the first of them goes.
func TestP1410ToldBound(t *testing.T) {
	b := choked(t)
	b.want(0, create("a", 100, 60), api.OK, 0)
	b.hear(2, want("a", 100, rights(1, 1)), want("a", 100, rights(1, 1)))
	for i := range 4 {
		b.hear(2, ask(id(2, i+1), dec("b", 1)))
	}
	some := []api.Msg{give("a", 100, rights(1, 1))}
	for i := range 4 {
		some = append(some, told(id(2, i+1), "b", api.ErrNone, 0))
	}
	b.wantOut(2, some...)
	b.hear(2, want("b", 100, rights(1, 1)), ask(id(2, 5), read("a")), ask(id(5, 1), read("b")))
	b.wantOut(2, some[0], some[3], some[4], told(id(2, 5), "a", api.OK, 100), told(id(5, 1), "b", api.ErrNone, 0))
	// another outbox has a bound of its own
	b.hear(1, ask(id(1, 1), read("a")), ask(id(1, 2), read("a")))
	b.wantOut(1, told(id(1, 2), "a", api.OK, 100))
	if out := b.r.See().Out[2]; len(out) != 5 {
		t.Errorf("the outbox %+v", out)
	}
}

// What Encode refuses is let go, and what is behind it goes.
func TestP1410Refused(t *testing.T) {
	b := first(t)
	b.hear(1, recapped(give("k", 10, rights(4, 6)), maxRound))
	b.waits(0, recap("k", 12))
	b.hear(1, yield("k", 10, at(1, 0), rights(0, 0), 0))
	acts := b.hear(2, yield("k", 10, at(1, 0), rights(0, 0), 0))
	wantReplies(t, acts, reply(id(0, 1), api.OK, 12))
	wantMails(t, acts)
	b.wantOut(1)
	b.wantOut(2)
	b.wantStock(api.Stock{Name: "k", Cap: 12, Recaps: maxRound + 1, Rights: rights(2, 3), About: 2})
	wantMails(t, b.tick()) // so is a digest with such a view

	b = choked(t)
	b.hear(1, mark("k", maxCap, at(1, 1)), give("k", maxCap, rights(maxCap, 0)), give("k", maxCap, rights(maxCap, 0)))
	b.wantOut(1, yield("k", maxCap, at(1, 1), rights(2*maxCap, 0), 0))
	b.waits(0, dec("c", 1))
	wantMails(t, b.listen(1), mail{1, ask(id(0, 1), dec("c", 1))})
}

// All of a step goes at its end: by rising peers, of each in the order of the outbox, as far as the window goes.
func TestP1410Order(t *testing.T) {
	c := config()
	c.Replicas, c.Window, c.Sessions = 4, 2, 12
	b := placed(t, c, 2)
	b.hear(1, give("a", 10, rights(3, 3)))
	b.waits(2, read("a"))
	acts := b.hear(3, mark("a", 10, at(1, 3)))
	gone := over("a", 10, at(1, 2), at(1, 3))
	wantMails(t, acts, mail{0, gone}, mail{1, gone}, mail{3, gone}, mail{3, yield("a", 10, at(1, 3), rights(3, 3), 0)})
	if n := len(acts.Frames); n != 5 || segment(t, acts.Frames[2]).Seq != 0 || acts.Frames[2].To != 3 {
		t.Errorf("%d frames; the acknowledgement should go ahead of what is new", n)
	}
	for i, want := range []int{0, 1, 3, 3, 3} {
		if acts.Frames[i].To != want || acts.Frames[i].From != 2 {
			t.Errorf("the frame %d goes from %d to %d", i, acts.Frames[i].From, acts.Frames[i].To)
		}
	}
}

// What a link sends again goes with the tick in which it is due.
func TestP1410Again(t *testing.T) {
	c := config()
	c.Resend = 3
	b := placed(t, c, 0)
	m := mail{1, ask(id(0, 1), dec("k", 1))}
	wantMails(t, b.waits(0, dec("k", 1)), m)
	for range 2 {
		wantMails(t, b.tick())
		wantMails(t, b.tick())
		wantMails(t, b.tick(), m)
	}
	b.listen(1)
	wantMails(t, b.tick())
	wantMails(t, b.tick())
	wantMails(t, b.tick())
}
