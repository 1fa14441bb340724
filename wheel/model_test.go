package wheel_test

import (
	"slices"
	"testing"

	"sluice/api"
	"sluice/wheel"
)

// model is timers in one list, by their due and their numbers.
type model struct {
	list      []api.Timer
	now, last int
}

func (m *model) arm(delay, kind, id int) int {
	if delay < 1 {
		delay = 1
	}
	if delay > maxDelay {
		delay = maxDelay
	}
	m.last++
	due := m.now + delay
	i := 0
	for i < len(m.list) && m.list[i].Due <= due {
		i++
	}
	m.list = slices.Insert(m.list, i, timer(due, m.last, kind, id))
	return m.last
}

func (m *model) cancel(number int) bool {
	for i, t := range m.list {
		if t.Number == number {
			m.list = slices.Delete(m.list, i, i+1)
			return true
		}
	}
	return false
}

func (m *model) tick() []api.Timer {
	m.now++
	n := 0
	for n < len(m.list) && m.list[n].Due == m.now {
		n++
	}
	came := slices.Clone(m.list[:n])
	m.list = m.list[n:]
	return came
}

// source tells bytes one by one, and 0 behind their end.
type source []byte

func (s *source) next() int {
	if len(*s) == 0 {
		return 0
	}
	b := (*s)[0]
	*s = (*s)[1:]
	return int(b)
}

// delay is mostly a short one, and now and then one of many rounds or beyond the bounds.
func (s *source) delay() int {
	d := s.next()
	switch {
	case d < 160:
		return d%8 - 1
	case d < 250:
		return d - 100
	}
	return maxDelay - 2 + d%5
}

// play plays what some bytes say at wheels of few slots and of many, and holds all that they tell against the model.
func play(t *testing.T, script []byte) {
	s := source(script)
	m := &model{}
	wheels := []*wheel.Wheel{made(t, 1), made(t, 1+s.next()%64), made(t, 1+s.next()%64), made(t, 64)}
	for len(s) > 0 {
		playCall(t, &s, wheels, m)
		for _, w := range wheels {
			wantInt(t, "Now", w.Now(), m.now)
			wantTimers(t, "List", w.List(), m.list...)
		}
		if t.Failed() {
			return
		}
	}
}

func playCall(t *testing.T, s *source, wheels []*wheel.Wheel, m *model) {
	switch s.next() % 8 {
	case 0, 1, 2:
		delay, kind, id := s.delay(), s.next(), s.next()
		number := m.arm(delay, kind, id)
		for _, w := range wheels {
			wantInt(t, "Arm", w.Arm(delay, kind, id), number)
		}
	case 3, 4:
		number := m.last + 1 - s.next()%16
		wanted := m.cancel(number)
		for _, w := range wheels {
			wantCancel(t, w, number, wanted)
		}
	default:
		wanted := m.tick()
		for _, w := range wheels {
			came := w.Tick()
			wantTimers(t, "Tick", came, wanted...)
			spoil(came)
		}
	}
}

// Every call of P502 to P505, in any order.
func TestP506Model(t *testing.T) {
	d := dice(5)
	for range 300 {
		play(t, d.bytes(800))
	}
}

// However many slots there are, the same is answered.
func TestP506AllSlots(t *testing.T) {
	d := dice(6)
	m := &model{}
	var wheels []*wheel.Wheel
	for slots := 1; slots <= 64; slots++ {
		wheels = append(wheels, made(t, slots))
	}
	script := source(d.bytes(4000))
	for len(script) > 0 && !t.Failed() {
		playCall(t, &script, wheels, m)
		for _, w := range wheels {
			wantTimers(t, "List", w.List(), m.list...)
		}
	}
}

// Each timer comes once, at its own tick, or has gone by Cancel ahead of it.
func TestP506Once(t *testing.T) {
	onEach(t, func(t *testing.T, w *wheel.Wheel) {
		d := dice(7)
		due := map[int]int{}
		tick := func() {
			for _, timer := range w.Tick() {
				at, there := due[timer.Number]
				if !there || at != w.Now() || timer.Due != at {
					t.Fatalf("%v comes at %d, want %d, %v", timer, w.Now(), at, there)
				}
				delete(due, timer.Number)
			}
		}
		for range 5000 {
			switch d.roll(4) {
			case 0, 1:
				delay := 1 + d.roll(200)
				due[w.Arm(delay, 0, 0)] = w.Now() + delay
			case 2:
				number := 1 + d.roll(3000)
				_, there := due[number]
				wantCancel(t, w, number, there)
				delete(due, number)
			case 3:
				tick()
			}
		}
		for range 200 {
			tick()
		}
		wantInt(t, "timers that never came", len(due), 0)
		wantTimers(t, "List", w.List())
	})
}

func FuzzPlay(f *testing.F) {
	d := dice(8)
	for range 20 {
		f.Add(d.bytes(200))
	}
	f.Fuzz(play)
}
