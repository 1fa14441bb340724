package cluster

import (
	"reflect"
	"testing"

	"sluice/api"
)

// A letter to nobody, which no replica sends: it is refused, and gone.
func TestP1502DeliverToNobody(t *testing.T) {
	c, _ := New(api.Config{Replicas: 2, Window: 2, Resend: 2, Timeout: 20, Queue: 4, Cache: 2, Counters: 2, Holds: 2, Sessions: 4, Bag: 50})
	for _, to := range []int{-1, 2, 1 << 40} {
		c.scene.CarryOut(api.Acts{Frames: []api.Letter{{From: 0, To: to, Data: []byte{1}}}}, api.OK)
		if a := c.Do(api.Step{Kind: api.StepDeliver, I: 0}); !reflect.DeepEqual(a, api.Answer{Err: api.ErrReplica}) {
			t.Errorf("a letter to %d: %+v", to, a)
		}
		if n := len(c.Do(api.Step{Kind: api.StepBag}).Bag); n != 0 {
			t.Errorf("a letter to %d: %d letters are left", to, n)
		}
	}
	for me, r := range c.replicas {
		if n := r.See().Drops; n != 0 {
			t.Errorf("%d has taken something: %d drops", me, n)
		}
	}
}
