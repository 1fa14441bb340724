package wheel_test

import (
	"math"
	"testing"

	"sluice/api"
	"sluice/wheel"
)

func TestP501Refused(t *testing.T) {
	for _, slots := range []int{0, 65, -1, 66, 128, -64, math.MaxInt, math.MinInt, 1 << 32, 1<<32 + 1, 1<<40 + 64} {
		if w, e := wheel.New(slots); w != nil || e != api.ErrArg {
			t.Errorf("New(%d): %v, %d, want nil, %d", slots, w, e, api.ErrArg)
		}
	}
}

func TestP501Empty(t *testing.T) {
	for slots := 1; slots <= 64; slots++ {
		w := made(t, slots)
		wantInt(t, "Now", w.Now(), 0)
		wantTimers(t, "List", w.List())
		wantCancel(t, w, 0, false)
		wantCancel(t, w, 1, false)
		quiet(t, w, 70)
	}
}

func TestP502Delays(t *testing.T) {
	for _, c := range []struct{ delay, counts int }{
		{1, 1}, {2, 2}, {63, 63}, {64, 64}, {65, 65}, {1 << 32, 1 << 32},
		{0, 1}, {-1, 1}, {-64, 1}, {math.MinInt, 1},
		{maxDelay - 1, maxDelay - 1}, {maxDelay, maxDelay}, {maxDelay + 1, maxDelay}, {1 << 41, maxDelay}, {math.MaxInt, maxDelay},
	} {
		onEach(t, func(t *testing.T, w *wheel.Wheel) {
			wantInt(t, "Arm", w.Arm(c.delay, 5, 6), 1)
			wantTimers(t, "List", w.List(), timer(c.counts, 1, 5, 6))
			if c.counts > 100 {
				quiet(t, w, 100)
				wantTimers(t, "List", w.List(), timer(c.counts, 1, 5, 6))
				return
			}
			quiet(t, w, c.counts-1)
			wantTimers(t, "Tick", w.Tick(), timer(c.counts, 1, 5, 6))
		})
	}
}

// A delay counts from now on, not from the beginning.
func TestP502FromNow(t *testing.T) {
	onEach(t, func(t *testing.T, w *wheel.Wheel) {
		quiet(t, w, 5)
		arm(t, w, 1, 3, math.MaxInt)
		quiet(t, w, 1)
		arm(t, w, 3, 0, 3)
		wantTimers(t, "List", w.List(), timer(7, 3, 0, 30), timer(8, 1, 3, 10), timer(9, 4, 3, 40), timer(5+maxDelay, 2, math.MaxInt, 20))
	})
}

func TestP502AnyKindAndId(t *testing.T) {
	odd := []int{0, -1, 1, math.MinInt, math.MaxInt, 1 << 33}
	onEach(t, func(t *testing.T, w *wheel.Wheel) {
		var wanted []api.Timer
		for _, kind := range odd {
			for _, id := range odd {
				number := len(wanted) + 1
				wantInt(t, "Arm", w.Arm(1, kind, id), number)
				wanted = append(wanted, timer(1, number, kind, id))
			}
		}
		wantTimers(t, "List", w.List(), wanted...)
		wantTimers(t, "Tick", w.Tick(), wanted...)
	})
}

// A number that has gone is given to no other timer.
func TestP502NumbersRise(t *testing.T) {
	onEach(t, func(t *testing.T, w *wheel.Wheel) {
		arm(t, w, 1, 1, 1, 5)
		wantCancel(t, w, 3, true)
		arm(t, w, 4, 1)
		w.Tick()
		wantTimers(t, "List", w.List())
		arm(t, w, 5, 1)
		wantCancel(t, w, 5, true)
		wantCancel(t, w, 5, false)
		wantCancel(t, w, 6, false)
		arm(t, w, 6, 1)
		wantTimers(t, "Tick", w.Tick(), timer(2, 6, 1, 60))
	})
}

// The first number of each wheel is 1, whatever others have given.
func TestP502FirstNumber(t *testing.T) {
	a, b := made(t, 3), made(t, 3)
	arm(t, a, 1, 1, 1, 1)
	arm(t, b, 1, 1)
	arm(t, a, 4, 1)
	arm(t, b, 2, 1)
}

func TestP503NoSuchTimer(t *testing.T) {
	onEach(t, func(t *testing.T, w *wheel.Wheel) {
		arm(t, w, 1, 2, 1)
		for _, number := range []int{0, -1, -2, 3, 4, 65, 1<<32 + 1, math.MaxInt, math.MinInt} {
			wantCancel(t, w, number, false)
		}
		wantTimers(t, "List", w.List(), timer(1, 2, 1, 20), timer(2, 1, 2, 10))
		wantInt(t, "Now", w.Now(), 0)
		arm(t, w, 3, 7)
	})
}

func TestP503Goes(t *testing.T) {
	onEach(t, func(t *testing.T, w *wheel.Wheel) {
		arm(t, w, 1, 1, 1, 1, 2)
		wantCancel(t, w, 2, true)
		wantCancel(t, w, 2, false)
		wantTimers(t, "List", w.List(), timer(1, 1, 1, 10), timer(1, 3, 1, 30), timer(2, 4, 2, 40))
		wantTimers(t, "Tick", w.Tick(), timer(1, 1, 1, 10), timer(1, 3, 1, 30))
		wantCancel(t, w, 1, false)
		wantCancel(t, w, 3, false)
		wantCancel(t, w, 4, true)
		wantTimers(t, "List", w.List())
		quiet(t, w, 200)
	})
}

// Whichever goes of many that lie in one slot, the others stay.
func TestP503AnyOfMany(t *testing.T) {
	const many = 9
	for gone := 1; gone <= many; gone++ {
		onEach(t, func(t *testing.T, w *wheel.Wheel) {
			var wanted []api.Timer
			for number := 1; number <= many; number++ {
				arm(t, w, number, 64)
				if number != gone {
					wanted = append(wanted, timer(64, number, 64, 10*number))
				}
			}
			wantCancel(t, w, gone, true)
			wantTimers(t, "List", w.List(), wanted...)
			quiet(t, w, 63)
			wantTimers(t, "Tick", w.Tick(), wanted...)
		})
	}
}

// A timer can go between two ticks ahead of its own, the last one too.
func TestP503LastMoment(t *testing.T) {
	onEach(t, func(t *testing.T, w *wheel.Wheel) {
		arm(t, w, 1, 10, 10)
		quiet(t, w, 9)
		wantCancel(t, w, 1, true)
		wantTimers(t, "Tick", w.Tick(), timer(10, 2, 10, 20))
		wantCancel(t, w, 2, false)
		quiet(t, w, 130)
	})
}

func TestP504Example(t *testing.T) {
	onEach(t, func(t *testing.T, w *wheel.Wheel) {
		for i, a := range [][3]int{{2, 1, 7}, {1, 2, 8}, {0, 3, 9}, {6, 1, 1}} {
			wantInt(t, "Arm", w.Arm(a[0], a[1], a[2]), i+1)
		}
		wantTimers(t, "List", w.List(), timer(1, 2, 2, 8), timer(1, 3, 3, 9), timer(2, 1, 1, 7), timer(6, 4, 1, 1))
		wantTimers(t, "Tick", w.Tick(), timer(1, 2, 2, 8), timer(1, 3, 3, 9))
		wantCancel(t, w, 2, false)
		wantCancel(t, w, 4, true)
		wantInt(t, "Arm", w.Arm(1, 5, 5), 5)
		wantTimers(t, "Tick", w.Tick(), timer(2, 1, 1, 7), timer(2, 5, 5, 5))
		wantTimers(t, "Tick", w.Tick())
		wantInt(t, "Now", w.Now(), 3)
		wantTimers(t, "List", w.List())
	})
}

// Timers of one tick come by their numbers, though they were armed at several ticks with several delays.
func TestP504ByNumbers(t *testing.T) {
	onEach(t, func(t *testing.T, w *wheel.Wheel) {
		arm(t, w, 1, 4, 68)
		quiet(t, w, 1)
		arm(t, w, 3, 3, 67)
		quiet(t, w, 2)
		arm(t, w, 5, 1, 65, 1)
		wantTimers(t, "Tick", w.Tick(), timer(4, 1, 4, 10), timer(4, 3, 3, 30), timer(4, 5, 1, 50), timer(4, 7, 1, 70))
		arm(t, w, 8, 64)
		quiet(t, w, 63)
		wantTimers(t, "Tick", w.Tick(), timer(68, 2, 68, 20), timer(68, 4, 67, 40), timer(68, 6, 65, 60), timer(68, 8, 64, 80))
	})
}

// A timer waits through as many rounds of the slots as its delay has.
func TestP504NotEarly(t *testing.T) {
	onEach(t, func(t *testing.T, w *wheel.Wheel) {
		for delay := 300; delay >= 1; delay-- {
			arm(t, w, 301-delay, delay)
		}
		for now := 1; now <= 300; now++ {
			number := 301 - now
			wantTimers(t, "Tick", w.Tick(), timer(now, number, now, 10*number))
			wantInt(t, "timers left", len(w.List()), 300-now)
		}
	})
}

func TestP504NextTick(t *testing.T) {
	onEach(t, func(t *testing.T, w *wheel.Wheel) {
		for number := 1; number <= 150; number++ {
			arm(t, w, number, 1)
			wantTimers(t, "Tick", w.Tick(), timer(number, number, 1, 10*number))
			wantTimers(t, "List", w.List())
		}
	})
}

func TestP505Now(t *testing.T) {
	onEach(t, func(t *testing.T, w *wheel.Wheel) {
		for now := 1; now <= 150; now++ {
			w.Tick()
			wantInt(t, "Now", w.Now(), now)
			w.Arm(2, 0, 0)
			w.Cancel(now)
			w.List()
			wantInt(t, "Now", w.Now(), now)
		}
	})
}

func TestP505Order(t *testing.T) {
	onEach(t, func(t *testing.T, w *wheel.Wheel) {
		arm(t, w, 1, 130, 3, 66, 3, 2, 130, 1, 66, 64, 65)
		wanted := []api.Timer{
			timer(1, 7, 1, 70), timer(2, 5, 2, 50), timer(3, 2, 3, 20), timer(3, 4, 3, 40), timer(64, 9, 64, 90),
			timer(65, 10, 65, 100), timer(66, 3, 66, 30), timer(66, 8, 66, 80), timer(130, 1, 130, 10), timer(130, 6, 130, 60),
		}
		for len(wanted) > 0 {
			wantTimers(t, "List", w.List(), wanted...)
			wantTimers(t, "List again", w.List(), wanted...)
			came := w.Tick()
			wantTimers(t, "Tick", came, wanted[:len(came)]...)
			wanted = wanted[len(came):]
			if w.Now() > 130 {
				t.Fatalf("at %d: there are %v", w.Now(), wanted)
			}
		}
		wantTimers(t, "List", w.List())
		wantInt(t, "Now", w.Now(), 130)
	})
}
