package gossip_test

import (
	"math"
	"slices"
	"strings"
	"testing"

	"sluice/api"
	"sluice/gossip"
)

func TestP1201New(t *testing.T) {
	for replicas := 2; replicas <= 16; replicas++ {
		for me := range replicas {
			g := made(t, me, replicas)
			v := knowing(t, me, "k", slices.Repeat([]api.Rights{rights(5, 5)}, replicas)...)
			for _, name := range []string{"k", "", "other"} {
				wantLacks(t, g, name, none)
				wantSilent(t, g, name, having(t, none), v, none)
			}
		}
	}
}

func TestP1201Refused(t *testing.T) {
	for _, c := range []struct {
		me, replicas int
		err          api.Errno
	}{
		{0, 1, api.ErrArg}, {0, 0, api.ErrArg}, {0, -1, api.ErrArg}, {0, 17, api.ErrArg}, {16, 17, api.ErrArg},
		{-1, 1, api.ErrArg}, {1, 1, api.ErrArg}, {99, 17, api.ErrArg}, {-1, 17, api.ErrArg}, {0, 1<<32 + 3, api.ErrArg},
		{0, math.MinInt, api.ErrArg}, {0, math.MaxInt, api.ErrArg}, {math.MaxInt, math.MaxInt, api.ErrArg},
		{3, 3, api.ErrReplica}, {-1, 3, api.ErrReplica}, {2, 2, api.ErrReplica}, {16, 16, api.ErrReplica},
		{-1, 16, api.ErrReplica}, {1 << 32, 3, api.ErrReplica}, {256, 3, api.ErrReplica},
		{math.MinInt, 3, api.ErrReplica}, {math.MaxInt, 3, api.ErrReplica},
	} {
		if g, e := gossip.New(c.me, c.replicas); g != nil || e != c.err {
			t.Errorf("New(%d, %d): %v, %d, want nil, %d", c.me, c.replicas, g, e, c.err)
		}
	}
}

// Of each kind the greatest that was said counts, whatever the other kind is, and never the sum.
func TestP1202Greatest(t *testing.T) {
	g := made(t, 0, 3)
	for _, c := range []struct{ said, lacking api.Rights }{
		{rights(0, 0), rights(0, 0)}, {rights(5, 0), rights(5, 0)}, {rights(3, 2), rights(5, 2)}, {rights(0, 0), rights(5, 2)},
		{rights(5, 2), rights(5, 2)}, {rights(6, 1), rights(6, 2)}, {rights(0, 3), rights(6, 3)}, {rights(7, 9), rights(7, 9)},
		{rights(maxCap, 0), rights(maxCap, 9)}, {rights(0, maxCap), rights(maxCap, maxCap)}, {rights(1, 1), rights(maxCap, maxCap)},
	} {
		g.Need("k", c.said)
		wantLacks(t, g, "k", c.lacking)
	}
}

// One number that may not be, and the other one says nothing either.
func TestP1202Wrong(t *testing.T) {
	fresh, g := made(t, 0, 3), made(t, 0, 3)
	g.Need("k", rights(5, 2))
	for _, wrong := range wrongRights() {
		fresh.Need("k", wrong)
		g.Need("k", wrong)
		if fresh.Lacks("k") != none || g.Lacks("k") != rights(5, 2) {
			t.Errorf("Need(%v): lacking %v, %v", wrong, fresh.Lacks("k"), g.Lacks("k"))
		}
	}
}

// Any text is a name here, and each one is lacking by itself.
func TestP1202AnyName(t *testing.T) {
	names := []string{
		"k", "K", "k ", " k", "", " ", "kk", "\x00", "k\x00", "\xff", "\u00e9", strings.Repeat("n", 16), strings.Repeat("n", 17),
		strings.Repeat("n", 5000),
	}
	g := made(t, 0, 3)
	for i, name := range names {
		wantLacks(t, g, name, none)
		g.Need(name, rights(i+1, 2*i))
	}
	for i, name := range names {
		wantLacks(t, g, name, rights(i+1, 2*i))
	}
	v := knowing(t, 0, "k", none, none, rights(3, 0))
	wantAsked(t, g, "k", having(t, none), v, 2, rights(1, 0))
	for i, name := range names[1:] {
		wantSilent(t, g, name, having(t, none), v, rights(i+2, 2*i+2))
	}
}

func TestP1203Examples(t *testing.T) {
	g := made(t, 0, 3)
	v, l := knowing(t, 0, "k", rights(1, 0), rights(4, 9), rights(6, 2)), having(t, rights(1, 0))
	wantSilent(t, g, "k", l, v, none)
	g.Need("k", rights(5, 0))
	g.Need("k", rights(3, 2))
	g.Need("k", rights(-1, 9))
	wantLacks(t, g, "k", rights(5, 2))
	wantAsked(t, g, "k", l, v, 2, rights(4, 2))
	wantSilent(t, g, "k", l, v, none)
	g.Need("k", rights(0, 7))
	wantAsked(t, g, "k", l, v, 1, rights(0, 7))
	g.Need("k", rights(1, 0))
	wantSilent(t, g, "k", l, v, none)
	g.Need("j", rights(2, 2))
	wantSilent(t, g, "j", having(t, none), v, rights(2, 2))
}

// What the ledger has is not asked for: of each kind by itself, and never below 0.
func TestP1203Beyond(t *testing.T) {
	for _, c := range []struct{ lacking, has, want api.Rights }{
		{rights(5, 2), rights(0, 0), rights(5, 2)}, {rights(5, 2), rights(4, 0), rights(1, 2)}, {rights(5, 2), rights(5, 0), rights(0, 2)},
		{rights(5, 2), rights(9, 0), rights(0, 2)}, {rights(5, 2), rights(0, 1), rights(5, 1)}, {rights(5, 2), rights(0, 2), rights(5, 0)},
		{rights(5, 2), rights(0, 9), rights(5, 0)}, {rights(5, 2), rights(4, 1), rights(1, 1)},
		{rights(maxCap, maxCap), rights(0, 0), rights(maxCap, maxCap)}, {rights(maxCap, maxCap), rights(maxCap-1, 1), rights(1, maxCap-1)},
		{rights(maxCap, maxCap), rights(maxCap, 0), rights(0, maxCap)}, {rights(1, 0), rights(0, maxCap), rights(1, 0)},
	} {
		g, v := made(t, 1, 2), knowing(t, 1, "k", rights(7, 7), rights(9, 9))
		g.Need("k", c.lacking)
		wantAsked(t, g, "k", having(t, c.has), v, 0, c.want)
	}
}

// Rights that are held are none that one has to spend.
func TestP1203HeldNotCounted(t *testing.T) {
	g, v, l := made(t, 1, 2), knowing(t, 1, "k", rights(7, 7), none), having(t, rights(5, 0))
	l.Lock(4)
	g.Need("k", rights(5, 0))
	wantAsked(t, g, "k", l, v, 0, rights(4, 0))
}

// Where the ledger has enough, nothing is lacking any more, also for a later tick with a ledger that has less.
func TestP1203Enough(t *testing.T) {
	for _, has := range []api.Rights{rights(5, 2), rights(6, 2), rights(5, 3), rights(maxCap-9, 9)} {
		g, v := made(t, 1, 2), knowing(t, 1, "k", rights(7, 7), none)
		g.Need("k", rights(5, 2))
		wantSilent(t, g, "k", having(t, has), v, none)
		wantSilent(t, g, "k", having(t, none), v, none)
		g.Need("k", rights(1, 0))
		wantAsked(t, g, "k", having(t, none), v, 0, rights(1, 0))
	}
}

// Who has most, me left out; of equal ones the first behind me, round by the end.
func TestP1203Whom(t *testing.T) {
	for _, c := range []struct {
		me   int
		has  []int
		whom int
	}{
		{0, []int{9, 1}, 1}, {1, []int{1, 9}, 0}, {0, []int{9, 1, 2, 3}, 3}, {3, []int{4, 1, 2, 9}, 0}, {2, []int{4, 5, 9, 3}, 1},
		{1, []int{5, 9, 5, 5}, 2}, {2, []int{5, 5, 9, 5}, 3}, {3, []int{5, 5, 5, 9}, 0}, {2, []int{5, 5, 9, 4}, 0}, {0, []int{0, 3, 0, 3}, 1},
		{1, []int{maxCap, 0, maxCap - 1}, 0}, {1, []int{0, 0, 1}, 2}, {15, []int{1, 0, 0, 0, 0, 0, 0, 0, 0, 0, 0, 0, 0, 0, 2, 9}, 14},
		{0, []int{0, 0, 0, 0, 0, 0, 0, 0, 0, 0, 0, 0, 0, 0, 0, 7}, 15},
	} {
		var downs, ups []api.Rights
		for _, n := range c.has {
			downs, ups = append(downs, rights(n, 0)), append(ups, rights(0, n))
		}
		g := made(t, c.me, len(c.has))
		g.Need("k", rights(5, 0))
		wantAsked(t, g, "k", having(t, none), knowing(t, c.me, "k", downs...), c.whom, rights(5, 0))
		g.Need("k", rights(0, 5))
		wantAsked(t, g, "k", having(t, none), knowing(t, c.me, "k", ups...), c.whom, rights(0, 5))
	}
}

// Down rights lead, as long as some are lacking and one has any; up rights do where they do not.
func TestP1203DownsFirst(t *testing.T) {
	for _, c := range []struct {
		lacking, has, one, two api.Rights
		whom                   int
		want                   api.Rights
	}{
		{rights(5, 5), none, rights(1, 9), rights(2, 0), 2, rights(5, 5)},
		{rights(5, 5), none, rights(2, 0), rights(1, 9), 1, rights(5, 5)},
		{rights(5, 5), none, rights(0, 1), rights(0, 2), 2, rights(5, 5)},
		{rights(5, 5), none, rights(0, 2), rights(0, 1), 1, rights(5, 5)},
		{rights(5, 5), rights(5, 0), rights(1, 9), rights(2, 0), 1, rights(0, 5)},
		{rights(5, 5), rights(0, 5), rights(1, 9), rights(2, 0), 2, rights(5, 0)},
		{rights(0, 5), none, rights(1, 9), rights(2, 0), 1, rights(0, 5)},
		{rights(5, 0), none, rights(1, 9), rights(2, 0), 2, rights(5, 0)},
	} {
		g := made(t, 0, 3)
		g.Need("k", c.lacking)
		wantAsked(t, g, "k", having(t, c.has), knowing(t, 0, "k", rights(99, 99), c.one, c.two), c.whom, c.want)
	}
}

// Nobody is known to have what is lacking: it stays so, all of it, till somebody is.
func TestP1203Nobody(t *testing.T) {
	for _, c := range []struct{ lacking, has, others, left api.Rights }{
		{rights(5, 2), none, none, rights(5, 2)}, {rights(5, 0), none, rights(0, 9), rights(5, 0)},
		{rights(0, 2), none, rights(9, 0), rights(0, 2)}, {rights(5, 2), rights(3, 2), rights(0, 9), rights(5, 2)},
		{rights(5, 2), rights(5, 1), rights(9, 0), rights(5, 2)}, {rights(maxCap, maxCap), rights(7, 7), none, rights(maxCap, maxCap)},
	} {
		g, v := made(t, 0, 3), knowing(t, 0, "k", rights(99, 99), c.others, c.others)
		g.Need("k", c.lacking)
		for range 3 {
			wantSilent(t, g, "k", having(t, c.has), v, c.left)
		}
		v = knowing(t, 0, "k", none, none, rights(3, 3))
		wantAsked(t, g, "k", having(t, none), v, 2, c.left)
	}
}

// A tick looks at what is known of its name, and leaves what is lacking of others.
func TestP1203ItsNameAlone(t *testing.T) {
	g := made(t, 0, 3)
	v := knowing(t, 0, "a", none, rights(9, 9), rights(1, 1))
	learn(t, v, 0, 2, "b", rights(3, 3))
	for _, name := range []string{"a", "b", "c"} {
		g.Need(name, rights(4, 4))
	}
	wantAsked(t, g, "a", having(t, none), v, 1, rights(4, 4))
	wantLacks(t, g, "b", rights(4, 4))
	wantSilent(t, g, "c", having(t, none), v, rights(4, 4))
	wantSilent(t, g, "c", having(t, rights(4, 4)), v, none)
	wantAsked(t, g, "b", having(t, none), v, 2, rights(4, 4))
}

// Views and ledgers of others: of what is told nothing is said, but that the call ends, and asks no replica that is none.
func TestP1203StrangeViews(t *testing.T) {
	for _, replicas := range []int{2, 3, 16} {
		for _, me := range []int{0, 1, replicas - 1} {
			for _, others := range []int{2, 3, 16} {
				v := knowing(t, 0, "k", slices.Repeat([]api.Rights{rights(0, 4)}, others)...)
				g := made(t, me, replicas)
				g.Need("k", rights(3, 3))
				if to, _, _ := g.Tick("k", having(t, none), v); to < 0 || to >= replicas {
					t.Errorf("the replica %d of %d with views of %d: asks %d", me, replicas, others, to)
				}
			}
		}
	}
}

func TestP1204Examples(t *testing.T) {
	g := made(t, 0, 3)
	wantGiven(t, g, having(t, rights(5, 1)), rights(9, 0), rights(3, 0), rights(2, 1))
	wantGiven(t, g, having(t, rights(5, 1)), rights(-3, 4), rights(0, 1), rights(5, 0))
}

func TestP1204Give(t *testing.T) {
	for _, c := range []struct{ has, want, given int }{
		{0, 1, 0}, {0, maxCap, 0}, {0, 0, 0}, {0, -1, 0}, {1, 1, 1}, {1, 9, 1}, {1, 0, 0}, {2, 1, 1}, {2, 2, 1}, {3, 1, 1}, {3, 2, 2},
		{3, 3, 2}, {4, 2, 2}, {4, 3, 2}, {5, 2, 2}, {5, 3, 3}, {5, 4, 3}, {5, 0, 0}, {5, -1, 0}, {5, math.MinInt, 0}, {5, math.MaxInt, 3},
		{maxCap, maxCap, maxCap / 2}, {maxCap, math.MaxInt, maxCap / 2}, {maxCap, 1, 1}, {maxCap - 1, maxCap, maxCap / 2},
	} {
		g := made(t, 0, 3)
		left := c.has - c.given
		wantGiven(t, g, having(t, rights(c.has, 0)), rights(c.want, 0), rights(c.given, 0), rights(left, 0))
		wantGiven(t, g, having(t, rights(0, c.has)), rights(0, c.want), rights(0, c.given), rights(0, left))
		wantGiven(t, g, having(t, rights(c.has, 0)), rights(0, c.want), none, rights(c.has, 0))
		wantGiven(t, g, having(t, rights(0, c.has)), rights(c.want, 0), none, rights(0, c.has))
	}
}

func TestP1204BothKinds(t *testing.T) {
	g := made(t, 0, 3)
	wantGiven(t, g, having(t, rights(5, 8)), rights(2, 9), rights(2, 4), rights(3, 4))
	wantGiven(t, g, having(t, rights(5, 8)), rights(9, 2), rights(3, 2), rights(2, 6))
	wantGiven(t, g, having(t, rights(5, 8)), rights(-9, -9), none, rights(5, 8))
	wantGiven(t, g, having(t, rights(5, 8)), rights(math.MaxInt, math.MaxInt), rights(3, 4), rights(2, 4))
	wantGiven(t, g, having(t, rights(5, 8)), rights(math.MinInt, math.MaxInt), rights(0, 4), rights(5, 4))
}

// Half of what is left, again and again, and at last the single one.
func TestP1204Again(t *testing.T) {
	g, l := made(t, 0, 3), having(t, rights(10, 0))
	for _, c := range []struct{ given, left int }{{5, 5}, {3, 2}, {1, 1}, {1, 0}, {0, 0}} {
		wantGiven(t, g, l, rights(99, 99), rights(c.given, 0), rights(c.left, 0))
	}
}

// What the giver's holds lock is not given, and does not count for the half; its cap stays.
func TestP1204HeldStays(t *testing.T) {
	g, l := made(t, 0, 3), having(t, rights(9, 1))
	l.Lock(4)
	wantGiven(t, g, l, rights(99, 0), rights(3, 0), rights(2, 1))
	if limit, recaps := l.Cap(); l.Held() != 4 || limit != maxCap || recaps != 0 {
		t.Errorf("held %d, cap %d, %d", l.Held(), limit, recaps)
	}
}

// Who lacks rights itself gives like any other, and lacks them still.
func TestP1204OwnLackNotLookedAt(t *testing.T) {
	g := made(t, 0, 3)
	g.Need("k", rights(50, 50))
	wantGiven(t, g, having(t, rights(5, 1)), rights(9, 9), rights(3, 1), rights(2, 0))
	wantLacks(t, g, "k", rights(50, 50))
}
