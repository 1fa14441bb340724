package wheel_test

import (
	"slices"
	"testing"

	"sluice/api"
	"sluice/wheel"
)

// dice: numbers that hang on its beginning alone.
type dice uint64

func (d *dice) roll(n int) int {
	*d = *d*6364136223846793005 + 1442695040888963407
	return int(uint64(*d) >> 33 % uint64(n))
}

func (d *dice) bytes(n int) []byte {
	b := make([]byte, n)
	for i := range b {
		b[i] = byte(d.roll(256))
	}
	return b
}

const maxDelay = 1 << 40

// someSlots: the fewest, the most, and some whose rounds end elsewhere than a timer's delay.
var someSlots = []int{1, 2, 3, 4, 7, 63, 64}

func made(t *testing.T, slots int) *wheel.Wheel {
	t.Helper()
	w, e := wheel.New(slots)
	if e != api.OK || w == nil {
		t.Fatalf("New(%d): %v, %d", slots, w, e)
	}
	return w
}

// onEach runs a test at wheels of few slots and of many.
func onEach(t *testing.T, test func(t *testing.T, w *wheel.Wheel)) {
	t.Helper()
	for _, slots := range someSlots {
		test(t, made(t, slots))
		if t.Failed() {
			t.Fatalf("at a wheel of %d slots", slots)
		}
	}
}

func timer(due, number, kind, id int) api.Timer {
	return api.Timer{Due: due, Number: number, Kind: kind, Id: id}
}

func wantTimers(t *testing.T, what string, got []api.Timer, want ...api.Timer) {
	t.Helper()
	if !slices.Equal(got, want) {
		t.Errorf("%s: %v, want %v", what, got, want)
	}
}

func wantInt(t *testing.T, what string, got, want int) {
	t.Helper()
	if got != want {
		t.Errorf("%s: %d, want %d", what, got, want)
	}
}

func wantCancel(t *testing.T, w *wheel.Wheel, number int, want bool) {
	t.Helper()
	if got := w.Cancel(number); got != want {
		t.Errorf("Cancel(%d): %v, want %v", number, got, want)
	}
}

// arm arms timers whose kind is their delay and whose id is ten times their number.
func arm(t *testing.T, w *wheel.Wheel, first int, delays ...int) {
	t.Helper()
	for i, delay := range delays {
		number := first + i
		wantInt(t, "Arm", w.Arm(delay, delay, 10*number), number)
	}
}

// quiet lets ticks go by with which none may come.
func quiet(t *testing.T, w *wheel.Wheel, ticks int) {
	t.Helper()
	for range ticks {
		if got := w.Tick(); len(got) != 0 {
			t.Fatalf("at %d: %v, want nothing", w.Now(), got)
		}
	}
}
