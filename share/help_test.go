package share_test

import (
	"slices"
	"testing"

	"sluice/api"
	"sluice/share"
)

// dice: numbers that hang on its beginning alone.
type dice uint64

func (d *dice) roll(n int) int {
	*d = *d*6364136223846793005 + 1442695040888963407
	return int(uint64(*d) >> 33 % uint64(n))
}

func (d *dice) bytes(n int) []byte {
	b := make([]byte, n)
	for i := range b {
		b[i] = byte(d.roll(256))
	}
	return b
}

const (
	maxCap    = 1 << 40
	maxWeight = 1 << 20
)

func wantDeal(t *testing.T, total int, weights []int, parts ...int) {
	t.Helper()
	got, e := share.Deal(total, weights)
	if e != api.OK || !slices.Equal(got, parts) {
		t.Errorf("Deal(%d, %v): %v, %d, want %v", total, weights, got, e, parts)
	}
}

func wantNoDeal(t *testing.T, total int, weights ...int) {
	t.Helper()
	if got, e := share.Deal(total, weights); got != nil || e != api.ErrArg {
		t.Errorf("Deal(%d, %v): %v, %d, want %d", total, weights, got, e, api.ErrArg)
	}
}

func wantSplit(t *testing.T, r api.Rights, weights []int, parts ...api.Rights) {
	t.Helper()
	got, e := share.Split(r, weights)
	if e != api.OK || !slices.Equal(got, parts) {
		t.Errorf("Split(%v, %v): %v, %d, want %v", r, weights, got, e, parts)
	}
}

func wantNoSplit(t *testing.T, r api.Rights, weights ...int) {
	t.Helper()
	if got, e := share.Split(r, weights); got != nil || e != api.ErrArg {
		t.Errorf("Split(%v, %v): %v, %d, want %d", r, weights, got, e, api.ErrArg)
	}
}

func wantAsk(t *testing.T, me int, known []int, place int) {
	t.Helper()
	if got := share.Ask(me, known); got != place {
		t.Errorf("Ask(%d, %v): %d, want %d", me, known, got, place)
	}
}

func wantGive(t *testing.T, have, want, given int) {
	t.Helper()
	if got := share.Give(have, want); got != given {
		t.Errorf("Give(%d, %d): %d, want %d", have, want, got, given)
	}
}

// times tells a list of n equal numbers.
func times(n, number int) []int { return slices.Repeat([]int{number}, n) }
