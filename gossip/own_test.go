package gossip_test

import (
	"slices"
	"strings"
	"testing"

	"sluice/api"
)

// A tick changes neither the ledger nor the views, whatever it answers.
func TestP1203NotChanged(t *testing.T) {
	v := knowing(t, 1, "k", rights(4, 9), rights(1, 0), rights(6, 2))
	l := having(t, rights(1, 3))
	l.Lock(1)
	for _, lacking := range []api.Rights{rights(5, 0), rights(0, 9), rights(0, 2), none} {
		g := made(t, 1, 3)
		g.Need("k", lacking)
		for _, name := range []string{"k", "j"} {
			g.Tick(name, l, v)
		}
		limit, recaps := l.Cap()
		if l.Rights() != rights(0, 3) || l.Held() != 1 || limit != maxCap || recaps != 0 {
			t.Errorf("lacking %v: the ledger has %v, %d, cap %d, %d", lacking, l.Rights(), l.Held(), limit, recaps)
		}
		if !slices.Equal(v.Known("k"), []api.Rights{rights(4, 9), rights(1, 0), rights(6, 2)}) {
			t.Errorf("lacking %v: the views know %v", lacking, v.Known("k"))
		}
		if d := v.Digest(); len(d) != 1 || d[0].Version != 1 {
			t.Errorf("lacking %v: the digest %+v", lacking, d)
		}
		if _, spoken := v.About("j"); spoken {
			t.Errorf("lacking %v: of j is spoken", lacking)
		}
	}
}

// A name is a text, not the bytes that it was made of.
func TestP1206NameNotKept(t *testing.T) {
	g, text := made(t, 0, 2), []byte("some name")
	g.Need(string(text), rights(1, 2))
	text[0] = 'S'
	wantLacks(t, g, "some name", rights(1, 2))
	wantLacks(t, g, string(text), none)
	whole := strings.Repeat("x", 100) + "k"
	g.Need(whole[100:], rights(3, 4))
	wantLacks(t, g, "k", rights(3, 4))
}

// Two gossips of one replica, with one ledger and one set of views: what is said to one is not said to the other.
func TestP1206TwoGossips(t *testing.T) {
	one, two := made(t, 0, 3), made(t, 0, 3)
	l, v := having(t, none), knowing(t, 0, "k", none, rights(4, 9), rights(6, 2))
	one.Need("k", rights(5, 2))
	wantLacks(t, two, "k", none)
	wantSilent(t, two, "k", l, v, none)
	two.Need("k", rights(1, 7))
	wantLacks(t, one, "k", rights(5, 2))
	wantAsked(t, one, "k", l, v, 2, rights(5, 2))
	wantAsked(t, two, "k", l, v, 2, rights(1, 7))
	wantGiven(t, one, having(t, rights(5, 5)), rights(9, 9), rights(3, 3), rights(2, 2))
	wantLacks(t, two, "k", none)
}

// Two of different numbers: each knows which one it is itself.
func TestP1206OtherNumbers(t *testing.T) {
	first, last := made(t, 0, 3), made(t, 2, 3)
	first.Need("k", rights(1, 0))
	last.Need("k", rights(1, 0))
	wantAsked(t, first, "k", having(t, none), knowing(t, 0, "k", rights(9, 0), rights(1, 0), rights(9, 0)), 2, rights(1, 0))
	wantAsked(t, last, "k", having(t, none), knowing(t, 2, "k", rights(9, 0), rights(1, 0), rights(9, 0)), 0, rights(1, 0))
}
