package replica

import (
	"math"
	"reflect"
	"testing"

	"sluice/api"
)

// Two messages of one kind and name: what adds up, what becomes the higher one, and that all else is the later one's.
// Within the package, since no replica comes to a lower epoch later, and it takes millions of frames to make rights wrap.
func TestP1410Merged(t *testing.T) {
	old := api.Msg{Kind: api.MsgYield, Name: "k", Cap: 10, Recaps: 1, Held: 3, Rights: api.Rights{Down: math.MaxInt64, Up: 2}, Epoch: api.Epoch{Round: 5, Rank: 1}, Over: api.Epoch{Round: 7, Rank: 2}}
	late := api.Msg{Kind: api.MsgYield, Name: "k", Cap: 8, Recaps: 2, Held: 1, Rights: api.Rights{Down: 2, Up: math.MaxInt64}, Epoch: api.Epoch{Round: 4, Rank: 9}, Over: api.Epoch{Round: 7, Rank: 1}}
	want := late
	want.Rights = api.Rights{Down: math.MinInt64 + 1, Up: math.MinInt64 + 1}
	want.Epoch, want.Over = old.Epoch, old.Over
	if m := merged(old, late); !reflect.DeepEqual(m, want) {
		t.Errorf("%+v; want %+v", m, want)
	}
	want.Rights = late.Rights
	old.Kind, late.Kind, want.Kind = api.MsgWant, api.MsgWant, api.MsgWant
	if m := merged(old, late); !reflect.DeepEqual(m, want) {
		t.Errorf("of MsgWant: %+v; want %+v", m, want)
	}
}

func TestP1410Higher(t *testing.T) {
	rising := []api.Epoch{{}, {Round: 1}, {Round: 1, Rank: 15}, {Round: 2}, {Round: 2, Rank: 1}, {Round: api.MaxRound}}
	for i, low := range rising {
		for _, high := range rising[i:] {
			if higher(low, high) != high || higher(high, low) != high {
				t.Errorf("of %v and %v: %v, %v", low, high, higher(low, high), higher(high, low))
			}
		}
	}
}
