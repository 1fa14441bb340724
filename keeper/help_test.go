package keeper_test

import (
	"bytes"
	"encoding/binary"
	"reflect"
	"testing"

	"sluice/api"
	"sluice/disk"
	"sluice/journal"
	"sluice/keeper"
	"sluice/names"
	"sluice/replica"
)

// dice: numbers that hang on its beginning alone.
type dice uint64

func (d *dice) roll(n int) int {
	*d = *d*6364136223846793005 + 1442695040888963407
	return int(uint64(*d) >> 33 % uint64(n))
}

func (d *dice) bytes(n int) []byte {
	b := make([]byte, n)
	for i := range b {
		b[i] = byte(d.roll(256))
	}
	return b
}

// two is the config of the chapter's examples.
func two() api.Config {
	return api.Config{Replicas: 2, Window: 2, Resend: 2, Timeout: 20, Queue: 4, Cache: 2, Counters: 2, Holds: 2, Sessions: 4, Bag: 50}
}

// home is the replica of two at which k is at home, and its session 0 or 1.
func home() int { return names.Home("k", 2) }

// ask is a call of that session.
func ask(id, kind, a, b int) keeper.Input {
	return keeper.Input{Kind: keeper.InputCall, Call: api.Call{Session: home(), Id: id}, Op: api.Op{Kind: kind, Name: "k", A: a, B: b}}
}

func framed(data []byte) keeper.Input { return keeper.Input{Kind: keeper.InputFrame, Data: data} }

func requested(data []byte) keeper.Input {
	return keeper.Input{Kind: keeper.InputRequest, Data: data}
}

func tick() keeper.Input { return keeper.Input{Kind: keeper.InputTick} }

func made(t *testing.T, sectors int) *disk.Disk {
	t.Helper()
	d, e := disk.New(sectors)
	if e != api.OK {
		t.Fatalf("disk.New(%d): %d", sectors, e)
	}
	return d
}

// twin is a disk with the same bytes.
func twin(t *testing.T, d *disk.Disk) *disk.Disk {
	t.Helper()
	c, e := disk.From(d.Image())
	if e != api.OK {
		t.Fatalf("disk.From: %d", e)
	}
	return c
}

func opened(t *testing.T, c api.Config, me int, d *disk.Disk) (*keeper.Keeper, []api.Effect) {
	t.Helper()
	k, effects, e := keeper.Open(c, me, d)
	if e != api.OK || k == nil || k.Down() {
		t.Fatalf("Open: %v, %d", k != nil, e)
	}
	return k, effects
}

// begun is a keeper of k's home, on a new disk.
func begun(t *testing.T, sectors int) (*disk.Disk, *keeper.Keeper) {
	t.Helper()
	d := made(t, sectors)
	k, effects := opened(t, two(), home(), d)
	if len(effects) != 0 {
		t.Errorf("effects of zeros: %+v", effects)
	}
	return d, k
}

// filled is such a keeper that has k with cap 10 and 4 down rights.
func filled(t *testing.T, sectors int) (*disk.Disk, *keeper.Keeper) {
	t.Helper()
	d, k := begun(t, sectors)
	do(t, k, ask(1, api.OpCreate, 10, 4), api.OK)
	return d, k
}

func do(t *testing.T, k *keeper.Keeper, x keeper.Input, wanted api.Errno) api.Acts {
	t.Helper()
	acts, e := k.Do(x)
	if e != wanted {
		t.Errorf("Do of kind %d: %d, want %d", x.Kind, e, wanted)
	}
	if e != api.OK {
		wantNothing(t, acts)
	}
	return acts
}

func wantNothing(t *testing.T, acts api.Acts) {
	t.Helper()
	if len(acts.Frames)+len(acts.Replies)+len(acts.Effects) != 0 {
		t.Errorf("acts: %+v, want none", acts)
	}
}

// wantReply asserts that the acts are one reply, and as many effects.
func wantReply(t *testing.T, acts api.Acts, want api.Reply, effects int) {
	t.Helper()
	if len(acts.Replies) != 1 || acts.Replies[0] != want || len(acts.Effects) != effects || len(acts.Frames) != 0 {
		t.Errorf("acts: %+v, want the reply %+v and %d effects", acts, want, effects)
	}
}

func wantDown(t *testing.T, k *keeper.Keeper) {
	t.Helper()
	if !k.Down() || !reflect.DeepEqual(k.See(), api.Sight{}) {
		t.Errorf("Down: %v, See: %+v; want it to be down", k.Down(), k.See())
	}
}

func wantSight(t *testing.T, k *keeper.Keeper, want api.Sight) {
	t.Helper()
	if k.Down() {
		t.Error("the keeper is down")
	}
	if s := k.See(); !reflect.DeepEqual(s, want) {
		t.Errorf("See: %+v, want %+v", s, want)
	}
}

func wantEffects(t *testing.T, got, want []api.Effect) {
	t.Helper()
	if len(got) != len(want) || len(want) > 0 && !reflect.DeepEqual(got, want) {
		t.Errorf("effects: %+v, want %+v", got, want)
	}
}

func wantBytes(t *testing.T, what string, got, want []byte) {
	t.Helper()
	if !bytes.Equal(got, want) {
		t.Errorf("%s: % x, want % x", what, got[:min(len(got), 80)], want[:min(len(want), 80)])
	}
}

// wantRights asserts what the replica has of k.
func wantRights(t *testing.T, k *keeper.Keeper, down, up int) {
	t.Helper()
	stocks := k.See().Stocks
	if len(stocks) != 1 || stocks[0].Rights != (api.Rights{Down: down, Up: up}) {
		t.Errorf("stocks: %+v, want %d and %d", stocks, down, up)
	}
}

// fresh is a replica to which inputs have come with no keeper between, and the effects that it had.
func fresh(t *testing.T, c api.Config, me int, inputs []keeper.Input) (*replica.Replica, []api.Effect) {
	t.Helper()
	r, e := replica.New(c, me)
	if e != api.OK {
		t.Fatalf("replica.New: %d", e)
	}
	var effects []api.Effect
	for _, x := range inputs {
		acts, _ := hand(r, x)
		effects = append(effects, acts.Effects...)
	}
	return r, effects
}

func hand(r *replica.Replica, x keeper.Input) (api.Acts, api.Errno) {
	switch x.Kind {
	case 1:
		return r.Call(x.Call, x.Op)
	case 2:
		return r.Request(x.Data)
	case 3:
		return r.Frame(x.Data)
	case 4:
		return r.Tick(), api.OK
	}
	panic("no input")
}

// form tells the bytes of an input, as the library writes signed numbers.
func form(x keeper.Input) []byte {
	b := []byte{byte(x.Kind)}
	if x.Kind == 1 {
		for _, n := range []int{x.Call.Session, x.Call.Id, x.Op.Kind, x.Op.A, x.Op.B} {
			b = binary.AppendVarint(b, int64(n))
		}
	}
	return append(append(b, x.Op.Name...), x.Data...)
}

// records tells all that a disk's journal has.
func records(t *testing.T, d *disk.Disk) [][]byte {
	t.Helper()
	j, e := journal.Open(d)
	if e != api.OK {
		t.Fatalf("journal.Open: %d", e)
	}
	var list [][]byte
	for i := range j.Len() {
		b, _ := j.At(i)
		list = append(list, b)
	}
	return list
}

// recorded lays records on a new disk.
func recorded(t *testing.T, list ...[]byte) *disk.Disk {
	t.Helper()
	d := made(t, 60)
	j, _ := journal.Open(d)
	for _, b := range list {
		if e := j.Append(b); e != api.OK {
			t.Fatalf("Append: %d", e)
		}
	}
	return d
}

// wantRecords asserts that a disk's journal has just these inputs.
func wantRecords(t *testing.T, d *disk.Disk, inputs ...keeper.Input) {
	t.Helper()
	list := records(t, d)
	if len(list) != len(inputs) {
		t.Errorf("%d records, want %d", len(list), len(inputs))
		return
	}
	for i, x := range inputs {
		wantBytes(t, "a record", list[i], form(x))
	}
}

// needs tells how many sectors an input takes.
func needs(x keeper.Input) int { return (len(form(x)) + 495) / 496 }
