package replica_test

import (
	"reflect"
	"testing"

	"sluice/api"
)

// The digest goes round: at the k-th tick to the k-th of the peers, also where earlier ticks had nothing to tell.
func TestP1413DigestTurn(t *testing.T) {
	for me, turn := range [][]int{{1, 2}, {0, 2}, {0, 1}} {
		for silent := range 3 {
			b := placed(t, config(), me)
			for range silent {
				wantQuiet(t, b.tick())
			}
			b.hear(turn[0], give("k", 10, rights(1, 0)), give("q", 10, rights(1, 0)), give("a", 10, rights(1, 0)))
			for k := silent; k < silent+5; k++ {
				got := mails(t, b.tick())
				if len(got) != 1 || got[0].to != turn[k%2] || got[0].m.Kind != api.MsgDigest || len(got[0].m.Views) != 2 {
					t.Errorf("the replica %d, tick %d: %+v", me, k+1, got)
				}
				b.listen(turn[k%2])
			}
		}
	}
}

// With two replicas the digest goes to the other one each time; with sixteen to each of fifteen.
func TestP1413DigestBounds(t *testing.T) {
	for _, replicas := range []int{2, 16} {
		c := config()
		c.Replicas, c.Sessions = replicas, 64
		b := placed(t, c, replicas-1)
		b.hear(0, digest(view("a", 10, 1, rights(1, 0)), view("b", 10, 1, rights(1, 0))))
		for k := range 3 * replicas {
			got := mails(t, b.tick())
			if len(got) != 1 || got[0].to != k%(replicas-1) {
				t.Errorf("%d replicas, tick %d: %+v", replicas, k+1, got)
			}
			b.listen(k % (replicas - 1))
		}
	}
}

// At a tick the clock is one further, and holds end when their ticks are over, by rising names, of one by rising numbers.
func TestP1413Holds(t *testing.T) {
	b := first(t)
	b.want(0, create("b", 10, 6), api.OK, 0)
	b.want(0, create("a", 10, 6), api.OK, 0)
	b.tick()
	b.want(0, op(api.OpHold, "b", 1, 2), api.OK, 16)
	b.want(0, op(api.OpHold, "a", 1, 2), api.OK, 16)
	b.want(0, op(api.OpHold, "a", 2, 2), api.OK, 32)
	b.want(0, op(api.OpHold, "b", 2, 1), api.OK, 32)
	if b.r.See().Now != 1 {
		t.Errorf("now is %d", b.r.See().Now)
	}
	wantEffects(t, b.tick(), expired("b", 32))
	wantEffects(t, b.tick(), expired("a", 16), expired("a", 32), expired("b", 16))
	b.want(0, op(api.OpCommit, "a", 16), api.ErrHold, 0)
	wantEffects(t, b.tick())
	if b.r.See().Now != 4 {
		t.Errorf("now is %d", b.r.See().Now)
	}
	b.want(0, op(api.OpHold, "a", 6, 1000), api.OK, 48)
	wantEffects(t, b.ticks(1000), expired("a", 48))
}

// What is lacked is asked for by rising names, ahead of the digest; not of a frozen counter, and then at a later tick.
func TestP1413Want(t *testing.T) {
	b := first(t)
	b.hear(1, give("c", 10, rights(1, 0)), give("k", 10, rights(1, 0)), digest(view("c", 10, 1, rights(2, 0)), view("k", 10, 1, rights(2, 0))))
	b.hear(2, give("q", 10, rights(1, 0)), digest(view("c", 10, 1, rights(3, 0)), view("k", 10, 1, rights(1, 0)), view("q", 10, 1, rights(3, 0))))
	for _, name := range []string{"q", "k", "c"} {
		b.want(0, dec(name, 4), api.ErrRights, 0)
	}
	b.hear(2, mark("q", 10, at(1, 2)))
	own := digest(view("c", 10, 1, rights(1, 0)), view("k", 10, 1, rights(1, 0)), view("q", 10, 2, rights(0, 0)))
	wantMails(t, b.tick(), mail{1, want("k", 10, rights(3, 0))}, mail{1, own}, mail{2, want("c", 10, rights(3, 0))})
	b.listen(1)
	b.hear(2, grant("q", 10, at(1, 2), rights(0, 0)))
	got := mails(t, b.tick())
	if len(got) != 2 || !reflect.DeepEqual(got[0], mail{2, want("q", 10, rights(4, 0))}) || got[1].m.Kind != api.MsgDigest {
		t.Errorf("sent %+v", got)
	}
}

// A hold that ends with the tick is there for what the tick asks for.
func TestP1413SettledAheadOfWant(t *testing.T) {
	b := first(t)
	b.want(0, create("a", 10, 6), api.OK, 0)
	b.hear(2, digest(view("a", 10, 1, rights(9, 0))))
	b.want(0, op(api.OpHold, "a", 3, 1), api.OK, 16)
	b.want(0, dec("a", 5), api.ErrRights, 0)
	acts := b.tick()
	wantEffects(t, acts, expired("a", 16))
	if got := mails(t, acts); len(got) != 1 || got[0].m.Kind != api.MsgDigest {
		t.Errorf("sent %+v", got)
	}
	b.want(0, dec("a", 5), api.OK, 0)
}

// The views are told at the end of every call: so the digest of a tick tells what was ahead of it, and behind every call
// OpLook knows what is here.
func TestP1414Views(t *testing.T) {
	b := first(t)
	b.want(0, create("a", 10, 6), api.OK, 0)
	b.want(0, op(api.OpHold, "a", 3, 2), api.OK, 16)
	held := func(version int, r api.Rights, held int) api.View {
		return api.View{Name: "a", Cap: 10, Version: version, Rights: r, Held: held}
	}
	wantMails(t, b.tick(), mail{1, digest(held(2, rights(3, 4), 3))})
	b.want(0, look("a"), api.OK, 3)
	b.want(0, dec("a", 1), api.OK, 0)
	b.want(0, look("a"), api.OK, 2)
	wantMails(t, b.tick(), mail{2, digest(held(3, rights(2, 5), 3))})
	b.want(0, look("a"), api.OK, 5) // the hold has ended with the tick
	wantMails(t, b.tick(), mail{1, digest(held(4, rights(5, 5), 0))})
	b.hear(1, give("k", 10, rights(2, 0)))
	b.want(0, look("k"), api.OK, 2)
	b.hear(1, mark("k", 10, at(1, 1)))
	b.want(0, look("k"), api.OK, 0)
	b.hear(1, recapped(give("a", 20, rights(0, 4)), 1))
	last := held(5, rights(5, 9), 0)
	last.Cap, last.Recaps = 20, 1
	wantMails(t, b.tick(), mail{2, digest(last, view("k", 10, 2, rights(0, 0)))})
}

// All that is to be seen of a replica.
func TestP1415See(t *testing.T) {
	c := config()
	c.Window, c.Resend, c.Queue = 1, 1000, 9
	b := placed(t, c, 0)
	b.deaf = true
	b.want(0, create("b", 10, 6), api.OK, 0)
	b.want(0, op(api.OpHold, "b", 1, 9), api.OK, 16)
	b.hear(2, give("q", 5, rights(1, 1)), recapped(mark("c", 7, at(4, 1)), 2), mark("c", 7, at(3, 2)))
	b.hear(2, digest(view("b", 10, 1, rights(2, 0)), view("c", 7, 1, rights(3, 3))))
	b.waits(6, read("q"))
	b.waits(3, dec("q", 1))
	b.waits(0, read("k"))
	b.waits(3, dec("c", 1))
	b.r.Frame(nil)
	b.tick()
	s := b.r.See()
	want := api.Sight{
		Now: 1,
		Stocks: []api.Stock{
			{Name: "b", Cap: 10, Rights: rights(5, 4), Held: 1, About: 7},
			{Name: "c", Cap: 7, Recaps: 2, Live: []api.Epoch{at(4, 1), at(3, 2)}, Wait: 1, About: 3},
			{Name: "q", Cap: 5, Got: rights(1, 1), Live: []api.Epoch{at(1, 0)}, Own: at(1, 0), Wait: 1, About: 1},
		},
		Calls: []api.Call{id(0, 3), id(3, 1), id(3, 2), id(6, 1)},
		Drops: 1,
		Next:  []int{0, 1, 5},
		Out:   s.Out,
		Under: s.Under,
	}
	if !reflect.DeepEqual(s, want) {
		t.Errorf("%+v\nwant %+v", s, want)
	}
	views := []api.View{{Name: "b", Cap: 10, Version: 2, Rights: rights(5, 4), Held: 1}, {Name: "c", Cap: 7, Recaps: 2, Version: 1}, {Name: "q", Cap: 5, Version: 1, Rights: rights(1, 1)}}
	b.wantOut(0)
	b.wantOut(1, mark("q", 5, at(1, 0)), ask(id(0, 3), read("k")), digest(views...))
	b.wantOut(2)
	if len(s.Out) != 3 || len(s.Under) != 3 || len(s.Under[0]) != 0 || len(s.Under[1]) != 1 || len(s.Under[2]) != 1 {
		t.Fatalf("under way: %+v", s.Under)
	}
	if u := s.Under[2][0]; u.From != 0 || u.To != 2 || u.Seq != 1 || u.Ack != 4 {
		t.Errorf("under way to 2: %+v", u)
	}
}

// Rights are told as gathered only while the own epoch is the target.
func TestP1415Got(t *testing.T) {
	b := begun(t, rights(3, 2), read("k"))
	if s := b.stock("k"); s.Got != rights(3, 2) || s.Rights != rights(0, 0) {
		t.Errorf("gathering: %+v", s)
	}
	b.hear(1, yield("k", 10, at(1, 0), rights(1, 4), 0))
	if s := b.stock("k"); s.Got != rights(0, 0) || s.Rights != rights(2, 2) {
		t.Errorf("behind it: %+v", s)
	}
}
