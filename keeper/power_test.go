package keeper_test

import (
	"reflect"
	"slices"
	"strings"
	"testing"

	"sluice/api"
	"sluice/disk"
	"sluice/keeper"
)

// uneven tells bytes of which none is that of a place near it, nor that of 496 or 512 places on.
func uneven(n int) []byte {
	b := make([]byte, n)
	for i := range b {
		b[i] = byte(i*7 + i/128)
	}
	return b
}

// failing tells inputs in which the power fails, of one sector up to as many as there may be. Behind them all a replica
// is another one than ahead of them: it has an effect, an error, or the reply to a call.
func failing(t *testing.T) []keeper.Input {
	t.Helper()
	long := ask(2, api.OpDec, 1, 0)
	long.Op.Name = strings.Repeat("k", 600)
	create := api.Op{Kind: api.OpCreate, Name: "k", A: 5}
	return []keeper.Input{
		ask(2, api.OpDec, 1, 0),
		tick(),
		framed(told(t, api.Msg{Kind: api.MsgAsk, Call: api.Call{Session: 1 - home(), Id: 1}, Op: create})),
		long,
		requested(uneven(1300)),
		framed(uneven(8191)),
	}
}

// further tells inputs by which it is seen what has come ahead of them.
func further() []keeper.Input {
	return []keeper.Input{ask(2, api.OpLook, 0, 0), ask(3, api.OpHold, 1, 1), tick(), tick(), ask(4, api.OpLook, 0, 0)}
}

// wantCame asserts that a disk's keeper is one to which just these inputs have come, however often it is opened, and
// that it goes on like it.
func wantCame(t *testing.T, d *disk.Disk, came []keeper.Input) {
	t.Helper()
	r, wanted := fresh(t, two(), home(), came)
	writes := d.Writes()
	for range 2 {
		k, effects := opened(t, two(), home(), d)
		wantEffects(t, effects, wanted)
		wantSight(t, k, r.See())
	}
	if d.Writes() != writes || !d.IsOn() {
		t.Errorf("opening has written")
	}
	k, _ := opened(t, two(), home(), twin(t, d))
	for _, x := range further() {
		want, e := hand(r, x)
		acts, f := k.Do(x)
		if e != f || !reflect.DeepEqual(acts, want) {
			t.Errorf("it goes on with %+v, %d, want %+v, %d", acts, f, want, e)
		}
	}
	wantSight(t, k, r.See())
}

// fails lets the power fail in a Do behind so many whole sectors and the first bytes of the next one; it tells whether
// the input lasts, as the disk's chapter says it.
func fails(t *testing.T, d *disk.Disk, x keeper.Input, after, torn int) bool {
	t.Helper()
	k, _ := opened(t, two(), home(), d)
	d.Arm(after, torn)
	do(t, k, x, api.ErrDown)
	wantDown(t, k)
	d.On()
	wantDown(t, k)
	return after == needs(x)-1 && torn == 512
}

// Each byte of each sector; of the longest input each sector, and the bytes at which a mark begins or ends.
func TestP2209EveryByte(t *testing.T) {
	first := []keeper.Input{ask(1, api.OpCreate, 10, 4)}
	image, _ := filled(t, 40)
	for _, x := range failing(t) {
		for after := range needs(x) {
			for torn := range 513 {
				if needs(x) > 3 && torn > 8 && torn < 503 {
					continue
				}
				d := twin(t, image)
				came := first
				if fails(t, d, x, after, torn) {
					came = append(slices.Clip(first), x)
				}
				wantCame(t, d, came)
				if t.Failed() {
					t.Fatalf("kind %d, behind %d sectors, %d bytes", x.Kind, after, torn)
				}
			}
		}
	}
}

// The power fails twice in a row, in any two inputs; then one lasts.
func TestP2209TwoInARow(t *testing.T) {
	points := []int{0, 1, 8, 300, 504, 511, 512}
	image, _ := filled(t, 60)
	list := failing(t)
	for i, one := range list {
		for j, other := range list {
			for place := range needs(one) * needs(other) * 7 {
				d := twin(t, image)
				came := []keeper.Input{ask(1, api.OpCreate, 10, 4)}
				if fails(t, d, one, place%needs(one), points[(place+i)%7]) {
					came = append(came, one)
				}
				if fails(t, d, other, place/needs(one)%needs(other), points[(place+j)%7]) {
					came = append(came, other)
				}
				k, _ := opened(t, two(), home(), d)
				k.Do(ask(2, api.OpInc, 2, 0))
				wantCame(t, d, append(came, ask(2, api.OpInc, 2, 0)))
				if t.Failed() {
					t.Fatalf("inputs %d and %d, place %d", i, j, place)
				}
			}
		}
	}
}

// A power that fails behind more writes than a Do does, or not at all, does nothing to it.
func TestP2209NotYet(t *testing.T) {
	for _, x := range failing(t) {
		d, k := filled(t, 40)
		d.Arm(needs(x), 512)
		k.Do(x)
		if k.Down() || !d.IsOn() {
			t.Errorf("kind %d: it is down", x.Kind)
		}
		wantCame(t, twin(t, d), []keeper.Input{ask(1, api.OpCreate, 10, 4), x})
		do(t, k, tick(), api.ErrDown)
		wantDown(t, k)
		d.On()
		wantCame(t, d, []keeper.Input{ask(1, api.OpCreate, 10, 4), x, tick()})
	}
}

// A journal with too little room is no reason to write: what is armed waits on.
func TestP2209Space(t *testing.T) {
	d, k := filled(t, 2)
	d.Arm(0, 512)
	do(t, k, framed(uneven(600)), api.ErrSpace)
	if k.Down() || !d.IsOn() || d.Writes() != 1 {
		t.Error("a Do that has no room has written")
	}
	do(t, k, tick(), api.ErrDown)
	d.On()
	k, _ = opened(t, two(), home(), d)
	do(t, k, tick(), api.ErrSpace)
	if now := k.See().Now; now != 1 {
		t.Errorf("Now: %d, want 1", now)
	}
}
