package share_test

import (
	"math/big"
	"slices"
	"testing"

	"sluice/api"
	"sluice/share"
)

// ones: weights that are all 0 count as 1 each.
func ones(weights []int) []int {
	if slices.ContainsFunc(weights, func(weight int) bool { return weight != 0 }) {
		return weights
	}
	return times(len(weights), 1)
}

// modelDeal is P801, with numbers of any size, and each one that is left given by a search of its own.
func modelDeal(total int, weights []int) []int {
	weights = ones(weights)
	sum := new(big.Int)
	for _, weight := range weights {
		sum.Add(sum, big.NewInt(int64(weight)))
	}
	var parts []int
	var rests []*big.Int
	left := total
	for _, weight := range weights {
		product := new(big.Int).Mul(big.NewInt(int64(total)), big.NewInt(int64(weight)))
		part, rest := new(big.Int).QuoRem(product, sum, new(big.Int))
		parts, rests = append(parts, int(part.Int64())), append(rests, rest)
		left -= int(part.Int64())
	}
	for range left {
		best := 0
		for i := range rests {
			if rests[i].Cmp(rests[best]) > 0 {
				best = i
			}
		}
		parts[best]++
		rests[best] = big.NewInt(-1)
	}
	return parts
}

// checkParts holds a deal to P802.
func checkParts(t *testing.T, total int, weights []int) {
	t.Helper()
	parts, e := share.Deal(total, weights)
	if e != api.OK || len(parts) != len(weights) {
		t.Fatalf("Deal(%d, %v): %v, %d", total, weights, parts, e)
	}
	counted, sum, all := ones(weights), 0, 0
	for i := range counted {
		sum += counted[i]
		all += parts[i]
	}
	if all != total {
		t.Errorf("Deal(%d, %v): %v: in all %d", total, weights, parts, all)
	}
	for i, weight := range counted {
		down, up := total*weight/sum, (total*weight+sum-1)/sum
		if parts[i] != down && parts[i] != up || weight == 0 && parts[i] != 0 {
			t.Errorf("Deal(%d, %v): %v: at %d, want %d or %d", total, weights, parts, i, down, up)
		}
		for j := range counted {
			if weight > counted[j] && parts[i] < parts[j] {
				t.Errorf("Deal(%d, %v): %v: at %d less than at %d", total, weights, parts, i, j)
			}
		}
	}
}

// modelAsk is P804: the places in the order in which they are preferred, then the first of the greatest.
func modelAsk(me int, known []int) int {
	var order []int
	for i := range known {
		if i > me {
			order = append(order, i)
		}
	}
	for i := range known {
		if i < me {
			order = append(order, i)
		}
	}
	best := -1
	for _, i := range order {
		if known[i] > 0 && (best < 0 || known[i] > known[best]) {
			best = i
		}
	}
	return best
}

// deal rolls a total and weights that are right.
func (d *dice) deal() (int, []int) {
	top := []int{1, 2, 4, 20, 1000, maxWeight}[d.roll(6)]
	weights := make([]int, d.roll(16)+1)
	for i := range weights {
		weights[i] = d.roll(top + 1)
	}
	total := d.roll([]int{5, 40, 1000, 1 << 30}[d.roll(4)])
	if d.roll(3) == 0 {
		total = d.roll(1<<30)<<10 + d.roll(1<<10) + d.roll(2)
	}
	return total, weights
}

func TestP801Model(t *testing.T) {
	d := dice(81)
	for range 20000 {
		total, weights := d.deal()
		wantDeal(t, total, weights, modelDeal(total, weights)...)
	}
}

func TestP803Model(t *testing.T) {
	d := dice(83)
	for range 5000 {
		total, weights := d.deal()
		r := api.Rights{Down: total, Up: d.roll(1 << 30)}
		if r.Down+r.Up > maxCap {
			wantNoSplit(t, r, weights...)
			continue
		}
		down, up := modelDeal(r.Down, weights), modelDeal(r.Up, weights)
		var parts []api.Rights
		for i := range weights {
			parts = append(parts, api.Rights{Down: down[i], Up: up[i]})
		}
		wantSplit(t, r, weights, parts...)
	}
}

func TestP804Model(t *testing.T) {
	d := dice(84)
	for range 20000 {
		known := make([]int, d.roll(17))
		for i := range known {
			known[i] = d.roll(5) - 1
		}
		me := d.roll(len(known)+3) - 1
		if me >= len(known) {
			wantAsk(t, me, known, modelAsk(-1, known))
			continue
		}
		wantAsk(t, me, known, modelAsk(me, known))
	}
}

// Any totals and weights, right and wrong ones.
func FuzzDeal(f *testing.F) {
	f.Add(10, []byte{1, 1, 1}, 0)
	f.Add(7, []byte{2, 3, 2}, 0)
	f.Add(maxCap, []byte{1, 0, 255}, 12)
	f.Fuzz(func(t *testing.T, total int, bytes []byte, shift int) {
		weights := make([]int, len(bytes))
		good := total >= 0 && total <= maxCap && len(weights) >= 1 && len(weights) <= 16
		for i, b := range bytes {
			weights[i] = int(int8(b)) << (shift & 31)
			good = good && weights[i] >= 0 && weights[i] <= maxWeight
		}
		if !good {
			wantNoDeal(t, total, weights...)
			return
		}
		wantDeal(t, total, weights, modelDeal(total, weights)...)
		checkParts(t, total, weights)
	})
}
