package replica_test

import (
	"bytes"
	"reflect"
	"testing"

	"sluice/api"
	"sluice/frame"
	"sluice/wire"
)

// wantDrop asserts that bytes are refused: nothing has changed but the count.
func (b *bench) wantDrop(data []byte, want api.Errno) {
	b.t.Helper()
	before := b.r.See()
	if acts, e := b.r.Frame(data); e != want || !reflect.DeepEqual(acts, api.Acts{}) {
		b.t.Errorf("the frame % x: %+v, %d; want %d", data, acts, e, want)
	}
	before.Drops++
	if after := b.r.See(); !reflect.DeepEqual(before, after) {
		b.t.Errorf("the frame % x makes %+v; want %+v", data, after, before)
	}
}

func sealed(t *testing.T, payload []byte) []byte {
	t.Helper()
	data, e := frame.Seal(payload)
	if e != api.OK {
		t.Fatal(e)
	}
	return data
}

// Bytes that are no frame, frames without a segment, segments that are none of a peer's to this replica.
func TestP1411Refused(t *testing.T) {
	b := first(t)
	b.want(0, create("a", 10, 4), api.OK, 0)
	b.hear(1, mark("a", 10, at(1, 1)))
	good := sealed(t, []byte{1, 0, 0, 0, 0})
	wrong := bytes.Clone(good)
	wrong[len(wrong)-1]++
	for _, data := range [][]byte{nil, {1, 2, 3}, append(bytes.Clone(good), 0)} {
		b.wantDrop(data, api.ErrFrame)
	}
	b.wantDrop([]byte{2, 0, 0, 0, 0, 0, 0}, api.ErrVersion)
	b.wantDrop(wrong, api.ErrSum)
	for _, payload := range [][]byte{nil, {1}, {1, 0, 0, 0}, {1, 0, 0, 0, 0, 0}, {16, 0, 0, 0, 0}, {1, 0, 1, 0, 0}, bytes.Repeat([]byte{7}, 4096)} {
		b.wantDrop(sealed(t, payload), api.ErrWire)
	}
	m, _ := wire.Encode(give("a", 10, rights(0, 1)))
	for _, s := range []api.Segment{
		{From: 1, To: 1, Seq: 2, Data: m}, {From: 1, To: 2, Seq: 2, Data: m}, {From: 1, To: 3, Seq: 2, Data: m}, {From: 1, To: 15},
		{From: 0, To: 0, Seq: 1, Data: m}, {From: 3, To: 0, Seq: 1, Data: m}, {From: 15, To: 0, Seq: 1, Data: m},
		{From: 1, To: 0, Seq: 2, Ack: 2, Data: m}, {From: 2, To: 0, Seq: 1, Ack: 1, Data: m}, {From: 2, To: 0, Ack: api.MaxSeq},
	} {
		b.wantDrop(sealedSegment(t, s), api.ErrLink)
	}
	wantMails(t, b.hear(1, give("a", 10, rights(0, 1))), mail{1, yield("a", 10, at(1, 1), rights(0, 1), 0)})
}

// What is in turn is taken in order, once, also where it came too early or comes again.
func TestP1411InTurn(t *testing.T) {
	b := first(t)
	frames := [][]byte{
		b.sealed(1, give("k", 10, rights(1, 0))),
		b.sealed(1, mark("k", 10, at(1, 1))),
		b.sealed(1, grant("k", 10, at(1, 1), rights(0, 2))),
	}
	for _, i := range []int{2, 1, 2} {
		acts, e := b.r.Frame(frames[i])
		if e != api.OK || b.knows("k") {
			t.Fatalf("%d, and it is in turn too early", e)
		}
		wantQuiet(t, acts)
	}
	acts, e := b.r.Frame(frames[0])
	if e != api.OK {
		t.Fatal(e)
	}
	wantMails(t, acts, mail{1, yield("k", 10, at(1, 1), rights(1, 0), 0)})
	b.wantStock(api.Stock{Name: "k", Cap: 10, Rights: rights(0, 2)})
	for _, data := range frames {
		acts, e := b.r.Frame(data)
		if e != api.OK || len(acts.Frames) != 1 {
			t.Errorf("once more: %+v, %d", acts, e)
		}
		wantQuiet(t, acts)
	}
	b.wantStock(api.Stock{Name: "k", Cap: 10, Rights: rights(0, 2)})
}

// Data that is no message is a drop, and passed over; what is behind it is taken.
func TestP1411NoMessage(t *testing.T) {
	b := first(t)
	good, _ := wire.Encode(give("k", 10, rights(1, 0)))
	for i, data := range [][]byte{{0}, append(bytes.Clone(good), 0), good[:len(good)-1], {11}, good} {
		acts, e := b.r.Frame(sealedSegment(t, api.Segment{From: 1, To: 0, Seq: i + 1, Data: data}))
		if e != api.OK || len(acts.Frames) != 1 || segment(t, acts.Frames[0]).Ack != i+1 {
			t.Errorf("% x: %+v, %d", data, acts, e)
		}
		if want := min(i+1, 4); b.r.See().Drops != want {
			t.Errorf("% x: %d drops; want %d", data, b.r.See().Drops, want)
		}
	}
	b.wantStock(api.Stock{Name: "k", Cap: 10, Rights: rights(1, 0), About: 1})
	// several that are in turn at once, two of them none
	for i, data := range [][]byte{good, {0}, good, {99}} {
		if i > 0 {
			b.r.Frame(sealedSegment(t, api.Segment{From: 2, To: 0, Seq: i + 1, Data: data}))
		}
	}
	b.r.Frame(sealedSegment(t, api.Segment{From: 2, To: 0, Seq: 1, Data: good}))
	if s := b.r.See(); s.Drops != 6 || s.Next[2] != 5 {
		t.Errorf("%d drops, %d is awaited", s.Drops, s.Next[2])
	}
	b.wantStock(api.Stock{Name: "k", Cap: 10, Rights: rights(3, 0), About: 3})
}

// about are all messages that make the name k known, each with the cap 10, set anew twice.
func about() []api.Msg {
	var list []api.Msg
	for _, m := range []api.Msg{
		mark("k", 10, at(1, 0)), yield("k", 10, at(1, 0), rights(0, 0), 0), grant("k", 10, at(1, 0), rights(0, 0)), abort("k", 10, at(1, 0), rights(0, 0)),
		over("k", 10, at(1, 0), at(1, 0)), want("k", 10, rights(0, 0)), give("k", 10, rights(0, 0)),
		told(id(0, 1), "k", api.OK, 10), told(id(0, 1), "k", api.ErrExists, 10),
	} {
		list = append(list, recapped(m, 2))
	}
	return append(list, digest(api.View{Name: "k", Cap: 10, Recaps: 2, Version: 1}))
}

// Every message about a counter makes its name known, with no rights, and with the cap that it tells.
func TestP1412Known(t *testing.T) {
	for _, m := range about() {
		for from := 1; from <= 2; from++ {
			b := first(t)
			wantQuiet(t, b.hear(from, m))
			b.wantStock(api.Stock{Name: "k", Cap: 10, Recaps: 2})
		}
	}
	for _, m := range []api.Msg{
		ask(id(1, 1), read("k")), ask(id(1, 1), read("a")), told(id(0, 1), "k", api.ErrNone, 0), told(id(0, 1), "k", api.ErrCap, 0),
		told(id(0, 1), "k", api.ErrCounters, 0), told(id(0, 1), "k", 255, 0), digest(),
	} {
		b := first(t)
		b.hear(1, m)
		if s := b.r.See().Stocks; len(s) != 0 {
			t.Errorf("%+v makes known: %+v", m, s)
		}
	}
}

// Of two caps the one that was set anew more often counts; no right comes or goes by it, and none that has no room for
// what is here.
func TestP1412CapHeard(t *testing.T) {
	for _, m := range about() {
		b := first(t)
		b.hear(2, give("k", 30, rights(3, 4)))
		wantQuiet(t, b.hear(1, m))
		b.wantStock(api.Stock{Name: "k", Cap: 10, Recaps: 2, Rights: rights(3, 4), About: 3})
		b = first(t)
		b.hear(2, recapped(give("k", 30, rights(3, 4)), 2))
		b.hear(1, m)
		b.wantStock(api.Stock{Name: "k", Cap: 30, Recaps: 2, Rights: rights(3, 4), About: 3})
		b = first(t)
		b.hear(2, give("k", 30, rights(7, 4)))
		b.hear(1, m)
		b.wantStock(api.Stock{Name: "k", Cap: 30, Rights: rights(7, 4), About: 7})
	}
}

// A name that can't be, of the own home or beyond what a home may have, lets its message go; so that nothing of it counts.
func TestP1412LetGo(t *testing.T) {
	for _, m := range about() {
		b := first(t)
		named := func(name string) api.Msg {
			if m.Kind == api.MsgDigest {
				return digest(view(name, 10, 1, rights(5, 0)))
			}
			m.Name = name
			if m.Kind >= api.MsgYield && m.Kind != api.MsgOver {
				m.Rights = rights(5, 0)
			}
			return m
		}
		b.hear(1, give("c", 10, rights(1, 0)), give("k", 10, rights(1, 0)))
		b.waits(0, dec("q", 1)) // the call (0, 1) is asked, and stays so
		for _, name := range []string{"a", "b", "j", "m"} {
			wantQuiet(t, b.hear(2, named(name)))
		}
		if s := b.r.See(); len(s.Stocks) != 2 || s.Drops != 0 {
			t.Errorf("%+v: %+v", m, s.Stocks)
		}
		b.wantOpen(id(0, 1))
	}
	// of a digest such a view alone goes
	b := first(t)
	b.hear(1, digest(view("a", 10, 1, rights(5, 0)), view("c", 10, 1, rights(1, 0)), view("j", 10, 1, rights(2, 0)), view("k", 10, 1, rights(3, 0)), view("q", 9, 1, rights(4, 0))))
	var names []string
	var values []int
	for _, s := range b.r.See().Stocks {
		names, values = append(names, s.Name), append(values, s.About)
	}
	if !reflect.DeepEqual(names, []string{"c", "j", "q"}) || !reflect.DeepEqual(values, []int{1, 2, 4}) {
		t.Errorf("known: %v, about %v", names, values)
	}
}

// The home's word on a call of another replica: MsgTold goes back to who asked, and what has happened is an effect.
func TestP1412Ask(t *testing.T) {
	b := first(t)
	for i, x := range []struct {
		o      api.Op
		e      api.Errno
		effect bool
		limit  int
	}{
		{read("a"), api.ErrNone, true, 0},
		{create("a", 10, 11), api.ErrCap, true, 0},
		{create("a", 10, 4), api.OK, true, 10},
		{create("a", 5, 9), api.ErrExists, true, 10},
		{dec("a", 99), api.OK, false, 10},
		{recap("a", 5), api.OK, false, 10},
		{op(api.OpCommit, "b", 1), api.ErrNone, true, 0},
		{create("b", 3, 3), api.OK, true, 3},
		{create("d", 3, 3), api.ErrCounters, false, 0},
		{create("d", 3, 4), api.ErrCap, true, 0},
		{read("d"), api.ErrNone, true, 0},
		{look("d"), api.ErrNone, true, 0},
		{look("a"), api.OK, false, 10},
	} {
		from := 1 + i%2
		c := id(from, i+1)
		acts := b.hear(from, ask(c, x.o))
		wantMails(t, acts, mail{from, told(c, x.o.Name, x.e, x.limit)})
		wantReplies(t, acts)
		if x.effect {
			wantEffects(t, acts, effect(c, x.o, x.e, 0))
		} else {
			wantEffects(t, acts)
		}
	}
	b.wantStock(api.Stock{Name: "a", Cap: 10, Rights: rights(4, 6), About: 4})
	b.wantOpen()
	// a cap that was set anew is told with how often
	b.hear(1, recapped(want("a", 20, rights(0, 0)), 3))
	wantMails(t, b.hear(1, ask(id(1, 99), read("a"))), mail{1, recapped(told(id(1, 99), "a", api.OK, 20), 3)})
}

// Of names that are at home elsewhere, and of ops that are not good, nothing is told.
func TestP1412AskWrong(t *testing.T) {
	b := first(t)
	b.want(0, create("a", 10, 4), api.OK, 0)
	b.hear(1, give("k", 10, rights(1, 0)))
	for _, o := range []api.Op{read("k"), read("q"), create("k", 5, 5), create("q", 5, 5), create("b", 0, 0), dec("a", 0), op(api.OpRead, "a", 1), op(api.OpHold, "a", 1, 1001), inc("b", -1)} {
		wantQuiet(t, b.hear(2, ask(id(2, 1), o)))
	}
	if b.knows("b") || b.knows("q") {
		t.Error("known by wrong asking")
	}
}

// A word to a call that is not asked says nothing but the name.
func TestP1412ToldNotAsked(t *testing.T) {
	b := first(t)
	b.hear(1, give("c", 10, rights(0, 0)))
	b.waits(0, read("c"))
	for _, e := range []api.Errno{api.OK, api.ErrExists, api.ErrNone, api.ErrCap} {
		limit := 0
		if e == api.OK || e == api.ErrExists {
			limit = 10
		}
		for _, c := range []api.Call{id(0, 1), id(0, 2), id(3, 1), id(1, 1), id(63, 1)} {
			wantQuiet(t, b.hear(1, told(c, "k", e, limit)))
		}
	}
	b.wantOpen(id(0, 1))
}

// The word on an OpCreate is its answer; an error is the answer of every op. No effect is told here.
func TestP1412ToldAnswers(t *testing.T) {
	for _, o := range []api.Op{create("k", 10, 4), read("k"), dec("k", 1), recap("k", 3)} {
		for _, e := range []api.Errno{api.OK, api.ErrExists, api.ErrNone, api.ErrCap, api.ErrCounters, api.ErrStale, 255} {
			if e == api.OK && o.Kind != api.OpCreate {
				continue
			}
			b := first(t)
			b.waits(0, o)
			limit := 0
			if e == api.OK || e == api.ErrExists {
				limit = 10
			}
			acts := b.hear(2, told(id(0, 1), "k", e, limit))
			wantReplies(t, acts, reply(id(0, 1), e, 0))
			wantEffects(t, acts)
			wantMails(t, acts)
			b.wantOpen()
			if b.knows("k") != (limit > 0) {
				t.Errorf("%+v told %d: known is %v", o, e, b.knows("k"))
			}
			wantQuiet(t, b.hear(1, told(id(0, 1), "k", e, limit)))
			wantReplies(t, b.ticks(25))
		}
	}
}

// With OK any other op goes on: a fast one on the spot, an exact one by an epoch, all of them in line where it is frozen.
func TestP1412ToldGoesOn(t *testing.T) {
	b := first(t)
	b.waits(0, dec("k", 1))
	b.waits(0, dec("k", 2))
	b.waits(0, read("k"))
	b.waits(0, inc("k", 1))
	acts := b.hear(1, told(id(0, 1), "k", api.OK, 10))
	wantReplies(t, acts, reply(id(0, 1), api.ErrRights, 0))
	wantEffects(t, acts)
	b.hear(1, give("k", 10, rights(2, 2)))
	acts = b.hear(1, told(id(0, 2), "k", api.OK, 10))
	wantReplies(t, acts, reply(id(0, 2), api.OK, 0))
	wantEffects(t, acts, effect(id(0, 2), dec("k", 2), api.OK, 0))
	acts = b.hear(1, told(id(0, 3), "k", api.OK, 10))
	wantMails(t, acts, both(mark("k", 10, at(1, 0)))...)
	wantQuiet(t, b.hear(1, told(id(0, 4), "k", api.OK, 10)))
	b.wantStock(api.Stock{Name: "k", Cap: 10, Got: rights(0, 4), Live: []api.Epoch{at(1, 0)}, Own: at(1, 0), Wait: 1})
	b.wantOpen(id(0, 3), id(0, 4))
}

// A call is answered by its own word alone, also where its name becomes known meanwhile.
func TestP1412ToldOwnWord(t *testing.T) {
	b := first(t)
	b.waits(0, dec("k", 1))
	wantQuiet(t, b.hear(1, give("k", 10, rights(2, 2))))
	b.want(3, dec("k", 1), api.OK, 0)
	b.wantOpen(id(0, 1))
	wantReplies(t, b.hear(1, told(id(0, 1), "k", api.OK, 10)), reply(id(0, 1), api.OK, 0))
}

// A word about another name: the call waits on, asked, if its own name is not known; if it is, the call goes on.
func TestP1412ToldAnotherName(t *testing.T) {
	b := first(t)
	b.waits(0, dec("k", 1))
	wantQuiet(t, b.hear(1, told(id(0, 1), "c", api.OK, 10)))
	if !b.knows("c") || b.knows("k") {
		t.Error("the name of the word is not known, or the other one is")
	}
	b.wantOpen(id(0, 1))
	wantReplies(t, b.hear(1, told(id(0, 1), "k", api.OK, 10)), reply(id(0, 1), api.ErrRights, 0))

	b = first(t)
	b.waits(0, dec("k", 1))
	b.hear(1, give("k", 10, rights(1, 0)))
	wantReplies(t, b.hear(1, told(id(0, 1), "c", api.OK, 10)), reply(id(0, 1), api.OK, 0))

	b = first(t)
	b.waits(0, dec("k", 1))
	wantReplies(t, b.hear(1, told(id(0, 1), "c", api.ErrExists, 10)), reply(id(0, 1), api.ErrExists, 0))
	b.waits(0, create("k", 7, 7))
	wantReplies(t, b.hear(1, told(id(0, 2), "c", api.OK, 10)), reply(id(0, 2), api.OK, 0))

	// it runs out of time as an asked one
	b = first(t)
	b.waits(0, dec("k", 1))
	b.hear(1, told(id(0, 1), "c", api.OK, 10))
	b.listen(1)
	wantReplies(t, b.ticks(20), reply(id(0, 1), api.ErrTimeout, 0))
}

// A word that leads on settles its op's counter first, then that of its name.
func TestP1412ToldOrder(t *testing.T) {
	b := first(t)
	b.hear(2, give("c", 10, rights(2, 1)))
	b.waits(3, read("k"))
	b.waits(0, read("c"))
	b.hear(2, give("k", 8, rights(3, 5)))
	acts := b.hear(1, recapped(told(id(3, 1), "c", api.OK, 3), 1))
	wantReplies(t, acts, reply(id(3, 1), api.OK, 3), reply(id(0, 1), api.OK, 2))
}

// What is wanted is given as far as it may; not of a frozen counter, and nothing is not sent.
func TestP1412Want(t *testing.T) {
	b := first(t)
	b.want(0, create("a", 20, 5), api.OK, 0)
	wantMails(t, b.hear(2, want("a", 20, rights(9, 1))), mail{2, give("a", 20, rights(3, 1))})
	b.wantStock(api.Stock{Name: "a", Cap: 20, Rights: rights(2, 14), About: 2})
	wantQuiet(t, b.hear(2, want("a", 20, rights(0, 0))))
	wantMails(t, b.hear(1, want("a", 20, rights(1, 0))), mail{1, give("a", 20, rights(1, 0))})
	wantQuiet(t, b.hear(1, want("k", 20, rights(1, 0))))
	b.hear(1, mark("a", 20, at(1, 1)))
	wantQuiet(t, b.hear(2, want("a", 20, rights(1, 1))))
	b = begun(t, rights(5, 0), read("k"))
	wantQuiet(t, b.hear(2, want("k", 10, rights(1, 1))))
	b.wantStock(api.Stock{Name: "k", Cap: 10, Got: rights(5, 0), Live: []api.Epoch{at(1, 0)}, Own: at(1, 0), About: 5})
}

// Rights that can't be are let go, whole; the report, and that the epoch has finished, count all the same.
func TestP1412RightsThatCantBe(t *testing.T) {
	b := first(t)
	b.hear(1, give("k", 10, rights(3, 3)))
	for _, m := range []api.Msg{give("k", 10, rights(5, 0)), grant("k", 10, at(1, 1), rights(0, 5)), abort("k", 10, at(2, 1), rights(maxCap, maxCap)), yield("k", 10, at(1, 1), rights(2, 3), 0)} {
		wantQuiet(t, b.hear(1, m))
		b.wantStock(api.Stock{Name: "k", Cap: 10, Rights: rights(3, 3), About: 3})
	}
	b.hear(1, mark("k", 10, at(3, 1)))
	b.hear(1, grant("k", 10, at(3, 1), rights(0, 11)))
	b.wantStock(api.Stock{Name: "k", Cap: 10})
	b.hear(1, give("k", 10, rights(3, 3)))
	b.waits(0, read("k"))
	wantReplies(t, b.hear(1, yield("k", 10, at(4, 0), rights(5, 0), 4)), reply(id(0, 1), api.OK, 3))
}

// Grants, aborts and overs end all earlier epochs of their initiator, of no other one.
func TestP1412Ends(t *testing.T) {
	for _, m := range []api.Msg{grant("a", 10, at(3, 1), rights(1, 0)), abort("a", 10, at(3, 1), rights(1, 0)), over("a", 10, at(3, 1), at(1, 0))} {
		b := first(t)
		b.want(0, create("a", 10, 4), api.OK, 0)
		b.hear(1, mark("a", 10, at(2, 1)))
		b.hear(2, m)
		b.wantStock(api.Stock{Name: "a", Cap: 10, Rights: m.Rights, About: m.Rights.Down})
		b.hear(1, mark("a", 10, at(4, 1)))
		b.hear(2, mark("a", 10, at(3, 2)), m)
		if s := b.stock("a"); !reflect.DeepEqual(s.Live, []api.Epoch{at(4, 1), at(3, 2)}) {
			t.Errorf("%+v: live %v", m, s.Live)
		}
	}
	b := first(t)
	b.want(0, create("a", 10, 4), api.OK, 0)
	b.hear(1, mark("a", 10, at(2, 1)))
	wantMails(t, b.hear(1, over("a", 10, at(2, 1), at(3, 2))), mail{2, yield("a", 10, at(3, 2), rights(0, 0), 0)})
}

// A digest's views are the peer's from then on, by their versions; one wrong view and none is taken, though the names are
// known.
func TestP1412Digest(t *testing.T) {
	b := first(t)
	b.hear(1, digest(view("c", 10, 2, rights(1, 0)), view("q", 9, 5, rights(2, 0))))
	b.hear(2, digest(view("c", 10, 1, rights(5, 0))))
	b.want(0, look("c"), api.OK, 6)
	b.want(0, look("q"), api.OK, 2)
	b.hear(1, digest(view("c", 10, 1, rights(3, 0)), view("q", 9, 6, rights(4, 0))))
	b.want(0, look("c"), api.OK, 6)
	b.want(0, look("q"), api.OK, 4)
	b.hear(1, digest(view("c", 10, 3, rights(8, 0)), view("k", 10, 1, rights(9, 2))))
	b.want(0, look("c"), api.OK, 6)
	b.want(0, look("k"), api.OK, 0)
	if !b.knows("k") {
		t.Error("k is not known")
	}
}

// The counters of a digest are settled by rising names, each by the cap that was heard.
func TestP1412DigestSettles(t *testing.T) {
	b := first(t)
	for _, name := range []string{"q", "c", "k"} {
		b.hear(1, give(name, 10, rights(3, 4)))
		b.waits(0, read(name))
	}
	shrunk := func(name string) api.View { return api.View{Name: name, Cap: 7, Recaps: 1, Version: 1} }
	acts := b.hear(2, digest(shrunk("c"), shrunk("j"), shrunk("k"), shrunk("q")))
	wantReplies(t, acts, reply(id(0, 2), api.OK, 3), reply(id(0, 3), api.OK, 3), reply(id(0, 1), api.OK, 3))
}

// A request as bytes is the call that they say; bytes that are none are a drop, and nothing else.
func TestP1416Request(t *testing.T) {
	b := first(t)
	request := func(c api.Call, o api.Op) []byte {
		data, e := wire.EncodeRequest(c, o)
		if e != api.OK {
			t.Fatal(e)
		}
		return data
	}
	acts, e := b.r.Request(request(id(0, 1), create("a", 10, 4)))
	if e != api.OK {
		t.Errorf("a request: %d", e)
	}
	wantReplies(t, acts, reply(id(0, 1), api.OK, 0))
	wantEffects(t, acts, effect(id(0, 1), create("a", 10, 4), api.OK, 0))
	good := request(id(0, 2), read("a"))
	for _, data := range [][]byte{nil, {0}, good[:len(good)-1], append(bytes.Clone(good), 0), make([]byte, 5000)} {
		before := b.r.See()
		if acts, e := b.r.Request(data); e != api.ErrWire || !reflect.DeepEqual(acts, api.Acts{}) {
			t.Errorf("% x: %+v, %d", data, acts, e)
		}
		before.Drops++
		if after := b.r.See(); !reflect.DeepEqual(before, after) {
			t.Errorf("% x makes %+v; want %+v", data, after, before)
		}
	}
	for _, x := range []struct {
		c api.Call
		e api.Errno
	}{{id(1, 1), api.ErrSession}, {id(63, 1), api.ErrSession}, {id(0, 3), api.ErrOrder}} {
		if acts, e := b.r.Request(request(x.c, read("a"))); e != x.e || !reflect.DeepEqual(acts, api.Acts{}) {
			t.Errorf("%+v: %+v, %d; want %d", x.c, acts, e, x.e)
		}
	}
	if acts, e = b.r.Request(good); e != api.OK {
		t.Errorf("a request: %d", e)
	}
	wantReplies(t, acts, reply(id(0, 2), api.OK, 4))
	acts, _ = b.r.Request(request(id(0, 3), op(api.OpRead, "a", -1, 5)))
	wantReplies(t, acts, reply(id(0, 3), api.ErrArg, 0))
	if s := b.r.See(); s.Drops != 5 {
		t.Errorf("%d drops", s.Drops)
	}
}
