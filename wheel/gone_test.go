package wheel

import (
	"testing"

	"sluice/api"
)

// What has gone leaves nothing behind: no call tells of it, so it is looked at from inside.
func TestP506NothingLeft(t *testing.T) {
	for _, slots := range []int{1, 4, 64} {
		w, _ := New(slots)
		for range 100 {
			w.Arm(3, 1, 1)
			cancelled := w.Arm(200, 2, 2)
			w.Tick()
			w.Cancel(cancelled)
		}
		w.Tick()
		w.Tick()
		if len(w.places) != 0 {
			t.Errorf("of %d slots: %d places of timers that have gone", slots, len(w.places))
		}
		for i, slot := range w.slots {
			for _, timer := range slot[:cap(slot)] {
				if len(slot) != 0 || timer != (api.Timer{}) {
					t.Errorf("of %d slots: the slot %d keeps %v", slots, i, timer)
				}
			}
		}
	}
}
