package keeper_test

import (
	"reflect"
	"strings"
	"testing"

	"sluice/api"
	"sluice/disk"
	"sluice/keeper"
	"sluice/names"
	"sluice/replica"
	"sluice/wire"
)

// three is a config of some of whose limits one is soon reached.
func three() api.Config {
	return api.Config{Replicas: 3, Window: 2, Resend: 2, Timeout: 12, Queue: 6, Cache: 2, Counters: 2, Holds: 2, Sessions: 6, Bag: 50}
}

// side is a replica with its disk, and one to which the same inputs have come, which no power ever fails.
type side struct {
	me     int
	disk   *disk.Disk
	keeper *keeper.Keeper
	safe   *replica.Replica
	came   []keeper.Input
	told   []api.Effect // all that it has had
	last   []int        // the last id of each session that has come
	full   int          // Dos that had no room
}

// world is some sides, the frames between them, and bytes that say what happens; behind their end comes nothing but 0.
type world struct {
	t       *testing.T
	script  []byte
	sides   []*side
	letters []api.Letter
	losses  int // Dos in which the power failed
	lasted  int // of them those whose input was there
}

func created(t *testing.T, script []byte) *world {
	t.Helper()
	w := &world{t: t, script: script}
	least := 1 + 400*min(w.roll(8), 1) // a few have so little room that they soon refuse all
	for me := range three().Replicas {
		s := &side{me: me, disk: made(t, least+w.roll(50)), last: make([]int, three().Sessions)}
		s.keeper, _ = opened(t, three(), me, s.disk)
		s.safe, _ = fresh(t, three(), me, nil)
		w.sides = append(w.sides, s)
	}
	for i, name := range []string{"a", "c"} {
		s := w.sides[names.Home(name, 3)]
		create := api.Op{Kind: api.OpCreate, Name: name, A: 20, B: 10 * i}
		w.do(s, keeper.Input{Kind: 1, Call: api.Call{Session: s.me, Id: s.last[s.me] + 1}, Op: create})
	}
	return w
}

// roll tells a number below n.
func (w *world) roll(n int) int {
	value := 0
	for most := 1; most < n; most *= 256 {
		value *= 256
		if len(w.script) > 0 {
			value += int(w.script[0])
			w.script = w.script[1:]
		}
	}
	return value % n
}

// input tells something that may come to a side.
func (w *world) input(s *side) keeper.Input {
	switch w.roll(20) {
	case 0, 1, 2:
		return keeper.Input{Kind: 1, Call: w.call(s), Op: w.op()}
	case 3:
		b, _ := wire.EncodeRequest(w.call(s), w.op())
		return requested(b)
	case 4, 5:
		return tick()
	case 6:
		return w.strange()
	}
	return w.letter(s)
}

// call tells one that comes in turn, mostly.
func (w *world) call(s *side) api.Call {
	session := s.me + 3*w.roll(2)
	if w.roll(8) == 0 {
		return api.Call{Session: session - w.roll(2), Id: s.last[session] + w.roll(4) - 1}
	}
	return api.Call{Session: session, Id: s.last[session] + 1}
}

func (w *world) op() api.Op {
	o := api.Op{Kind: 1 + w.roll(11), Name: "aaacccbd"[w.roll(8):][:1]}
	switch o.Kind {
	case api.OpCreate:
		o.A, o.B = 20, w.roll(21)
	case api.OpHold:
		o.A, o.B = 1+w.roll(4), 1+w.roll(5)
	case api.OpCommit, api.OpRelease:
		o.A = 1 + w.roll(9)
	case api.OpTake:
		o.A, o.B = w.roll(20), 1+w.roll(4)
	case api.OpInc, api.OpDec, api.OpReset, api.OpRecap:
		o.A = 1 + w.roll(22)
	}
	return o
}

// strange tells inputs that the replica refuses, or the keeper; long ones too.
func (w *world) strange() keeper.Input {
	data := uneven(w.roll(3) * w.roll(256))
	switch w.roll(8) {
	case 0:
		return keeper.Input{Kind: 1, Op: api.Op{Name: string(data)}}
	case 1:
		return keeper.Input{Kind: 1, Data: data}
	case 2:
		return keeper.Input{Kind: 4, Data: data}
	case 3:
		return keeper.Input{Kind: w.roll(256), Data: data}
	case 4:
		return framed(uneven(8185 + w.roll(14)))
	case 5:
		return keeper.Input{Kind: 1, Op: api.Op{Name: strings.Repeat("k", 8180+w.roll(14))}}
	case 6:
		return requested(data)
	}
	return framed(data)
}

// letter tells a frame to a side that is under way, mostly a first one; it may stay, so that it comes again.
func (w *world) letter(s *side) keeper.Input {
	skip := w.roll(2) * w.roll(4)
	for i, l := range w.letters {
		if l.To != s.me {
			continue
		}
		if skip--; skip >= 0 {
			continue
		}
		if w.roll(8) > 0 {
			w.letters = append(w.letters[:i:i], w.letters[i+1:]...)
		}
		return framed(l.Data)
	}
	return tick()
}

// step lets something happen to a side, and holds what comes of it against what must.
func (w *world) step() {
	s := w.sides[w.roll(3)]
	x := w.input(s)
	switch w.roll(16) {
	case 0:
		s.keeper, _ = opened(w.t, three(), s.me, s.disk) // the old one is left
		w.do(s, x)
	case 1:
		w.lose(s, x)
	default:
		w.do(s, x)
	}
}

func (w *world) do(s *side, x keeper.Input) {
	w.t.Helper()
	writes := s.disk.Writes()
	acts, e := s.keeper.Do(x)
	if w.isRefused(s, x, acts, e) {
		if s.disk.Writes() != writes {
			w.t.Error("a Do that was refused has written")
		}
		return
	}
	if want, f := w.comes(s, x); e != f || !reflect.DeepEqual(acts, want) {
		w.t.Errorf("Do: %+v, %d, want %+v, %d", acts, e, want, f)
	}
	wantSight(w.t, s.keeper, s.safe.See())
	w.letters = append(w.letters, acts.Frames...)
	w.letters = w.letters[max(0, len(w.letters)-60):]
}

// isRefused tells whether a Do has had no part in the replica: then nothing has happened.
func (w *world) isRefused(s *side, x keeper.Input, acts api.Acts, e api.Errno) bool {
	w.t.Helper()
	_, refusal := keeper.Encode(x)
	switch {
	case refusal != api.OK && e != refusal:
		w.t.Errorf("Do: %d, want %d", e, refusal)
	case refusal == api.OK && e != api.ErrSpace:
		return false
	case refusal == api.OK:
		s.full++
	}
	wantNothing(w.t, acts)
	wantSight(w.t, s.keeper, s.safe.See())
	return true
}

// comes lets an input come to the replica whose power never fails.
func (w *world) comes(s *side, x keeper.Input) (api.Acts, api.Errno) {
	acts, e := hand(s.safe, x)
	call := x.Call
	if x.Kind == 2 {
		call, _, _, _ = wire.DecodeRequest(x.Data)
	}
	if e == api.OK && call.Id > 0 {
		s.last[call.Session] = max(s.last[call.Session], call.Id)
	}
	s.came = append(s.came, x)
	s.told = append(s.told, acts.Effects...)
	return acts, e
}

// lose lets the power fail in this input, if that takes so many sectors; a new keeper goes on.
func (w *world) lose(s *side, x keeper.Input) {
	w.t.Helper()
	after, torn := w.roll(2)*w.roll(3), []int{0, w.roll(513), 512}[w.roll(3)]
	if after >= needs(x) {
		w.do(s, x)
		return
	}
	s.disk.Arm(after, torn)
	acts, e := s.keeper.Do(x)
	s.disk.Arm(-1, 0)
	if w.isRefused(s, x, acts, e) {
		return
	}
	if e != api.ErrDown {
		w.t.Errorf("the power has failed: %d", e)
	}
	wantNothing(w.t, acts)
	wantDown(w.t, s.keeper)
	s.disk.On()
	w.losses++
	if after == needs(x)-1 && torn == 512 {
		w.lasted++
		w.comes(s, x) // its frames and replies are told to nobody
	}
	var effects []api.Effect
	s.keeper, effects = opened(w.t, three(), s.me, s.disk)
	wantEffects(w.t, effects, s.told)
	wantSight(w.t, s.keeper, s.safe.See())
}

// reopened holds keepers on disks of the same bytes against those that have gone on all the while.
func (w *world) reopened() {
	w.t.Helper()
	for _, s := range w.sides {
		c := twin(w.t, s.disk)
		k, effects := opened(w.t, three(), s.me, c)
		wantEffects(w.t, effects, s.told)
		wantSight(w.t, k, s.safe.See())
		wantRecords(w.t, c, s.came...)
		if c.Writes() != 0 {
			w.t.Error("opening has written")
		}
	}
}

// play plays what some bytes say.
func play(t *testing.T, script []byte) *world {
	t.Helper()
	w := created(t, script)
	for i := 0; len(w.script) > 0 && !t.Failed(); i++ {
		w.step()
		if i%25 == 0 {
			w.reopened()
		}
	}
	w.reopened()
	return w
}

// isExact tells whether an effect is one of those for which all rights were gathered.
func isExact(e api.Effect) bool {
	return e.Err == api.OK && (e.Op.Kind == api.OpRead || e.Op.Kind == api.OpTake || e.Op.Kind == api.OpReset || e.Op.Kind == api.OpRecap)
}

// Any inputs, powers that fail, keepers that are left and opened anew: it goes on as if nothing had been. What the
// scripts lead to is counted, so that it is seen that they lead there.
func TestP2208Model(t *testing.T) {
	x := dice(3)
	effects, exact, losses, lasted, full := 0, 0, 0, 0, 0
	for range 60 {
		w := play(t, x.bytes(2500))
		for _, s := range w.sides {
			effects += len(s.told)
			full += s.full
			for _, e := range s.told {
				if isExact(e) {
					exact++
				}
			}
		}
		losses += w.losses
		lasted += w.lasted
		if t.Failed() {
			return
		}
	}
	t.Logf("%d effects, %d exact ones, %d losses, %d lasted, %d without room", effects, exact, losses, lasted, full)
	if effects < 500 || exact < 50 || losses-lasted < 100 || lasted < 100 || full < 100 {
		t.Error("too little has happened")
	}
}

func FuzzPlay(f *testing.F) {
	x := dice(4)
	for range 10 {
		f.Add(x.bytes(600))
	}
	f.Fuzz(func(t *testing.T, script []byte) { play(t, script) })
}
