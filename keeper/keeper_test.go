package keeper_test

import (
	"bytes"
	"math"
	"reflect"
	"slices"
	"strings"
	"testing"

	"sluice/api"
	"sluice/disk"
	"sluice/frame"
	"sluice/keeper"
	"sluice/replica"
	"sluice/wire"
)

func wantNoKeeper(t *testing.T, c api.Config, me int, d *disk.Disk, wanted api.Errno) {
	t.Helper()
	if k, effects, e := keeper.Open(c, me, d); k != nil || len(effects) != 0 || e != wanted {
		t.Errorf("Open: %v, %+v, %d, want nil, none, %d", k != nil, effects, e, wanted)
	}
}

// The errors, each where all later ones apply too.
func TestP2205Order(t *testing.T) {
	bad := recorded(t, form(ask(1, api.OpCreate, 10, 4)), []byte{9})
	wrong := two()
	wrong.Queue = 33
	wantNoKeeper(t, wrong, 2, nil, api.ErrArg)
	wantNoKeeper(t, api.Config{}, 0, bad, api.ErrArg)
	for _, me := range []int{2, -1, math.MaxInt64, math.MinInt64} {
		wantNoKeeper(t, two(), me, nil, api.ErrReplica)
		wantNoKeeper(t, two(), me, bad, api.ErrReplica)
	}
	wantNoKeeper(t, two(), 0, nil, api.ErrArg)
	wantNoKeeper(t, two(), 0, bad, api.ErrInput)
	bad.Off()
	wantNoKeeper(t, wrong, 0, bad, api.ErrArg)
	wantNoKeeper(t, two(), 2, bad, api.ErrReplica)
	wantNoKeeper(t, two(), 0, bad, api.ErrDown)
	if bad.IsOn() {
		t.Error("the disk is on")
	}
	bad.On()
	wantNoKeeper(t, two(), 0, bad, api.ErrInput)
}

// A record that is no input, wherever it stands, with effects ahead of it and behind it.
func TestP2205NoInput(t *testing.T) {
	good := [][]byte{form(ask(1, api.OpCreate, 10, 4)), form(ask(2, api.OpDec, 1, 0)), form(tick())}
	for _, b := range [][]byte{nil, {0}, {5}, {255}, {4, 0}, {1}, {1, 0, 0, 0, 0}, {1, 0x80, 0, 0, 0, 0, 0}} {
		for at := range 4 {
			wantNoKeeper(t, two(), home(), recorded(t, slices.Insert(slices.Clone(good), at, b)...), api.ErrInput)
		}
		wantNoKeeper(t, two(), home(), recorded(t, b), api.ErrInput)
	}
	_, effects := opened(t, two(), home(), recorded(t, good...))
	if len(effects) != 2 {
		t.Errorf("effects: %+v, want 2", effects)
	}
}

// A new disk's keeper is to be seen as a new replica, and any bytes are those of some journal.
func TestP2205New(t *testing.T) {
	for me := range 2 {
		r, _ := fresh(t, two(), me, nil)
		for _, d := range []*disk.Disk{made(t, 1), made(t, 60)} {
			k, effects := opened(t, two(), me, d)
			wantEffects(t, effects, nil)
			wantSight(t, k, r.See())
		}
		x := dice(2)
		d, _ := disk.From(x.bytes(5 * 512))
		k, effects := opened(t, two(), me, d)
		wantEffects(t, effects, nil)
		wantSight(t, k, r.See())
	}
}

// The effects of all inputs, by calls, requests, frames and ticks, in their order; what went out of it is let go.
func TestP2205Effects(t *testing.T) {
	inputs := lively(t)
	var list [][]byte
	for _, x := range inputs {
		list = append(list, form(x))
	}
	for n := range len(inputs) + 1 {
		r, wanted := fresh(t, two(), home(), inputs[:n])
		d := recorded(t, list[:n]...)
		k, effects := opened(t, two(), home(), d)
		wantEffects(t, effects, wanted)
		wantSight(t, k, r.See())
		if n == len(inputs) && (len(effects) != 6 || effects[5].Op.Kind != api.OpExpire) {
			t.Errorf("the effects: %+v", effects)
		}
	}
}

// lively is inputs that have effects, one of each kind at least.
func lively(t *testing.T) []keeper.Input {
	t.Helper()
	request, e := wire.EncodeRequest(api.Call{Session: home(), Id: 2}, api.Op{Kind: api.OpDec, Name: "k", A: 1})
	if e != api.OK {
		t.Fatalf("EncodeRequest: %d", e)
	}
	return []keeper.Input{
		ask(1, api.OpCreate, 10, 4),
		requested(request),
		framed([]byte{255}),
		ask(3, api.OpHold, 2, 2),
		framed(told(t, api.Msg{Kind: api.MsgAsk, Call: api.Call{Session: 1 - home(), Id: 1}, Op: api.Op{Kind: api.OpCreate, Name: "k", A: 5}})),
		ask(4, api.OpInc, 3, 0),
		ask(5, 99, 0, 0),
		tick(),
		tick(),
		tick(),
	}
}

// told is the frame of the first message that the other replica says to k's home.
func told(t *testing.T, m api.Msg) []byte {
	t.Helper()
	b, e := wire.Encode(m)
	if e != api.OK {
		t.Fatalf("Encode: %d", e)
	}
	return sealed(t, api.Segment{From: 1 - home(), To: home(), Seq: 1, Data: b})
}

func sealed(t *testing.T, s api.Segment) []byte {
	t.Helper()
	b, e := wire.EncodeSegment(s)
	if e != api.OK {
		t.Fatalf("EncodeSegment: %d", e)
	}
	data, e := frame.Seal(b)
	if e != api.OK {
		t.Fatalf("Seal: %d", e)
	}
	return data
}

// Nothing is written, what is armed stays so, and it may be done as often as one likes.
func TestP2205WritesNothing(t *testing.T) {
	d, k := filled(t, 60)
	want, image := k.See(), d.Image()
	d.Arm(0, 100)
	for range 5 {
		again, effects := opened(t, two(), home(), d)
		wantSight(t, again, want)
		if len(effects) != 1 {
			t.Errorf("effects: %+v", effects)
		}
	}
	wantBytes(t, "Image", d.Image(), image)
	if d.Writes() != 1 || !d.IsOn() {
		t.Errorf("%d writes, on: %v", d.Writes(), d.IsOn())
	}
	do(t, k, tick(), api.ErrDown)
}

// Each input is answered what the replica answers, and stands in the journal, also where the replica refuses it.
func TestP2206Answers(t *testing.T) {
	d, k := begun(t, 60)
	r, _ := fresh(t, two(), home(), nil)
	var done []keeper.Input
	for i, x := range slices.Concat(lively(t), refused(t)) {
		want, e := hand(r, x)
		acts, f := k.Do(x)
		if f != e || !reflect.DeepEqual(acts, want) {
			t.Errorf("input %d: %+v, %d, want %+v, %d", i, acts, f, want, e)
		}
		done = append(done, x)
		wantSight(t, k, r.See())
		wantRecords(t, d, done...)
	}
}

// refused is inputs that come behind the lively ones: the replica answers each of its errors to one of them.
func refused(t *testing.T) []keeper.Input {
	t.Helper()
	sum, version := told(t, api.Msg{Kind: api.MsgDigest}), told(t, api.Msg{Kind: api.MsgDigest})
	sum[len(sum)-1]++
	version[0]++
	noSegment, _ := frame.Seal([]byte{1})
	strange := ask(6, api.OpLook, 0, 0)
	strange.Call.Session = 1 - home()
	return []keeper.Input{
		strange, ask(0, api.OpLook, 0, 0), ask(9, api.OpLook, 0, 0), ask(1, api.OpLook, 0, 0), ask(5, api.OpLook, 0, 0),
		ask(6, api.OpRecap, 20, 0), ask(6, api.OpRecap, 20, 0),
		requested(nil), requested([]byte{255, 0}),
		framed(nil), framed(sum), framed(version), framed(noSegment),
		framed(sealed(t, api.Segment{From: home(), To: home(), Ack: 1})),
		framed(sealed(t, api.Segment{From: 1 - home(), To: home(), Seq: 1, Ack: 99, Data: []byte{10, 0}})),
	}
}

func TestP2206Errors(t *testing.T) {
	_, k := begun(t, 60)
	for _, x := range lively(t) {
		k.Do(x)
	}
	seen := map[api.Errno]int{}
	for _, x := range refused(t) {
		_, e := k.Do(x)
		seen[e]++
	}
	for _, e := range []api.Errno{
		api.ErrSession, api.ErrArg, api.ErrOrder, api.ErrStale, api.ErrPending,
		api.ErrWire, api.ErrFrame, api.ErrVersion, api.ErrSum, api.ErrLink,
	} {
		if seen[e] == 0 {
			t.Errorf("none is refused with %d: %v", e, seen)
		}
	}
}

// That the keeper is down comes ahead of what is wrong with the input; Encode's errors ahead of what is wrong with the
// disk, and they kill nothing.
func TestP2206Order(t *testing.T) {
	none, long := keeper.Input{Kind: 9}, framed(make([]byte, 8192))
	d, k := filled(t, 1)
	want, image := k.See(), d.Image()
	do(t, k, none, api.ErrInput)
	do(t, k, long, api.ErrLong)
	do(t, k, tick(), api.ErrSpace)
	d.Off()
	do(t, k, none, api.ErrInput)
	do(t, k, keeper.Input{Kind: 1, Op: api.Op{Name: strings.Repeat("k", 8187)}}, api.ErrLong)
	do(t, k, long, api.ErrLong)
	wantSight(t, k, want)
	do(t, k, tick(), api.ErrDown) // ahead of ErrSpace
	wantDown(t, k)
	for _, x := range []keeper.Input{none, long, tick()} {
		do(t, k, x, api.ErrDown)
		wantDown(t, k)
	}
	d.On()
	for _, x := range []keeper.Input{none, long, tick()} {
		do(t, k, x, api.ErrDown)
		wantDown(t, k)
	}
	wantBytes(t, "Image", d.Image(), image)
	if d.Writes() != 1 {
		t.Errorf("%d writes, want 1", d.Writes())
	}
}

// A journal that is full: nothing has happened, the keeper stays up, and what still has room comes.
func TestP2206Space(t *testing.T) {
	d, k := filled(t, 3)
	want, image := k.See(), d.Image()
	for range 3 {
		do(t, k, framed(make([]byte, 1000)), api.ErrSpace)
		wantSight(t, k, want)
	}
	wantBytes(t, "Image", d.Image(), image)
	wantReply(t, do(t, k, ask(2, api.OpDec, 1, 0), api.OK), api.Reply{Call: api.Call{Session: home(), Id: 2}}, 1)
	do(t, k, framed(make([]byte, 496)), api.ErrSpace)
	do(t, k, framed(make([]byte, 495)), api.ErrVersion)
	want = k.See()
	for _, x := range []keeper.Input{tick(), requested(nil), ask(3, api.OpDec, 1, 0)} {
		do(t, k, x, api.ErrSpace)
	}
	wantSight(t, k, want)
	wantRights(t, k, 3, 7)
	again, effects := opened(t, two(), home(), d)
	wantSight(t, again, want)
	if len(effects) != 2 {
		t.Errorf("effects: %+v", effects)
	}
}

// Neither Down nor See asks the disk: only a Do finds that it is off; and one that is on again has lost nothing.
func TestP2207AsksNoDisk(t *testing.T) {
	d, k := filled(t, 60)
	want := k.See()
	d.Off()
	wantSight(t, k, want)
	d.On()
	wantReply(t, do(t, k, ask(2, api.OpDec, 1, 0), api.OK), api.Reply{Call: api.Call{Session: home(), Id: 2}}, 1)
	want = k.See()
	d.Off()
	wantSight(t, k, want)
	do(t, k, tick(), api.ErrDown)
	wantDown(t, k)
	d.On()
	wantDown(t, k)
	again, _ := opened(t, two(), home(), d)
	wantSight(t, again, want)
	wantDown(t, k)
}

// The chapter's second table.
func TestP2206Table(t *testing.T) {
	d, k := begun(t, 40)
	r, _ := replica.New(two(), home())
	wantSight(t, k, r.See())
	first := do(t, k, ask(1, api.OpCreate, 10, 4), api.OK)
	wantReply(t, first, api.Reply{Call: api.Call{Session: home(), Id: 1}}, 1)
	do(t, k, framed([]byte{255}), api.ErrFrame)
	if k.See().Drops != 1 {
		t.Errorf("Drops: %d, want 1", k.See().Drops)
	}
	again, effects := opened(t, two(), home(), twin(t, d))
	wantEffects(t, effects, first.Effects)
	wantSight(t, again, k.See())

	was, dec := k.See(), ask(2, api.OpDec, 1, 0)
	d.Arm(0, 7)
	do(t, k, dec, api.ErrDown)
	wantDown(t, k)
	d.On()
	k, effects = opened(t, two(), home(), d)
	wantEffects(t, effects, first.Effects)
	wantSight(t, k, was)
	d.Arm(0, 512)
	do(t, k, dec, api.ErrDown)
	wantDown(t, k)
	d.On()
	k, effects = opened(t, two(), home(), d)
	if len(effects) != 2 || effects[0] != first.Effects[0] || effects[1].Op != dec.Op {
		t.Errorf("effects: %+v", effects)
	}
	wantRights(t, k, 3, 7)
	wantReply(t, do(t, k, dec, api.OK), api.Reply{Call: dec.Call}, 0) // the reply that was lost is told, and no second effect
	wantRights(t, k, 3, 7)
}

// What was handed in is neither changed nor kept, and what is told is new memory.
func TestP2210Do(t *testing.T) {
	d, k := begun(t, 60)
	inputs := lively(t)
	for _, x := range inputs {
		data := append(bytes.Clone(x.Data), "spare"...)
		kept := bytes.Clone(data)
		n := len(x.Data)
		x.Data = data[:n]
		acts, _ := k.Do(x)
		wantBytes(t, "what was handed in", data, kept)
		spoil(data)
		for _, l := range acts.Frames {
			spoil(l.Data)
		}
		clear(acts.Effects)
		clear(acts.Replies)
		clear(acts.Frames)
	}
	r, wanted := fresh(t, two(), home(), inputs)
	wantSight(t, k, r.See())
	wantRecords(t, d, inputs...)
	spoilSight(k.See())
	wantSight(t, k, r.See())
	again, effects := opened(t, two(), home(), d)
	clear(effects)
	spoilSight(again.See())
	wantSight(t, again, r.See())
	_, effects = opened(t, two(), home(), d)
	wantEffects(t, effects, wanted)
}

func spoilSight(s api.Sight) {
	for i := range s.Stocks {
		clear(s.Stocks[i].Live)
	}
	for _, list := range s.Under {
		for i := range list {
			spoil(list[i].Data)
		}
		clear(list)
	}
	for _, list := range s.Out {
		clear(list)
	}
	clear(s.Stocks)
	clear(s.Out)
	clear(s.Under)
	clear(s.Next)
	clear(s.Calls)
}

// Two keepers on disks of their own have nothing in common.
func TestP2210Two(t *testing.T) {
	d, one := filled(t, 60)
	e, other := filled(t, 60)
	want, image := other.See(), e.Image()
	do(t, one, ask(2, api.OpDec, 3, 0), api.OK)
	do(t, one, tick(), api.OK)
	d.Off()
	do(t, one, tick(), api.ErrDown)
	wantDown(t, one)
	wantSight(t, other, want)
	wantBytes(t, "Image", e.Image(), image)
	do(t, other, ask(2, api.OpDec, 1, 0), api.OK)
	wantRights(t, other, 3, 7)
}
