package wheel_test

import (
	"testing"

	"sluice/api"
	"sluice/wheel"
)

// spoil overwrites a list and its spare room.
func spoil(list []api.Timer) {
	list = list[:cap(list)]
	for i := range list {
		list[i] = timer(-77, -77, -77, -77)
	}
}

func TestP507List(t *testing.T) {
	onEach(t, func(t *testing.T, w *wheel.Wheel) {
		arm(t, w, 1, 1, 1, 2, 65, 129)
		wanted := []api.Timer{timer(1, 1, 1, 10), timer(1, 2, 1, 20), timer(2, 3, 2, 30), timer(65, 4, 65, 40), timer(129, 5, 129, 50)}
		first, second := w.List(), w.List()
		spoil(first)
		wantTimers(t, "the other list", second, wanted...)
		spoil(second)
		wantTimers(t, "List", w.List(), wanted...)
		wantTimers(t, "Tick", w.Tick(), wanted[:2]...)
		wantCancel(t, w, 5, true)
		wantCancel(t, w, -77, false)
	})
}

// What is done with a wheel does not reach the lists that it has told.
func TestP507ListStands(t *testing.T) {
	onEach(t, func(t *testing.T, w *wheel.Wheel) {
		arm(t, w, 1, 1, 2, 3)
		list := w.List()
		wantCancel(t, w, 2, true)
		came := w.Tick()
		arm(t, w, 4, 1, 1, 1)
		w.Tick()
		w.Tick()
		wantTimers(t, "the list", list, timer(1, 1, 1, 10), timer(2, 2, 2, 20), timer(3, 3, 3, 30))
		wantTimers(t, "what came", came, timer(1, 1, 1, 10))
	})
}

func TestP507Tick(t *testing.T) {
	onEach(t, func(t *testing.T, w *wheel.Wheel) {
		arm(t, w, 1, 1, 65, 1, 129, 1, 2)
		came := w.Tick()
		wantTimers(t, "Tick", came, timer(1, 1, 1, 10), timer(1, 3, 1, 30), timer(1, 5, 1, 50))
		spoil(came)
		wanted := []api.Timer{timer(2, 6, 2, 60), timer(65, 2, 65, 20), timer(129, 4, 129, 40)}
		wantTimers(t, "List", w.List(), wanted...)
		second := w.Tick()
		spoil(came)
		wantTimers(t, "Tick", second, wanted[0])
		spoil(second)
		wantTimers(t, "List", w.List(), wanted[1:]...)
		arm(t, w, 7, 63)
		spoil(came)
		spoil(second)
		quiet(t, w, 62)
		wantTimers(t, "Tick", w.Tick(), wanted[1], timer(65, 7, 63, 70))
	})
}

func TestP507TwoWheels(t *testing.T) {
	a, b := made(t, 4), made(t, 4)
	arm(t, a, 1, 1, 2)
	wantTimers(t, "List of the other", b.List())
	wantCancel(t, b, 1, false)
	arm(t, b, 1, 2)
	a.Tick()
	wantInt(t, "Now of the other", b.Now(), 0)
	wantCancel(t, a, 2, true)
	wantTimers(t, "List of the other", b.List(), timer(2, 1, 2, 10))
	quiet(t, b, 1)
	wantTimers(t, "Tick", b.Tick(), timer(2, 1, 2, 10))
	wantInt(t, "Now", a.Now(), 1)
}
