package names_test

import (
	"fmt"
	"math"
	"slices"
	"strings"
	"testing"

	"sluice/api"
	"sluice/names"
)

func TestP1001Hash(t *testing.T) {
	for _, c := range []struct {
		text string
		hash uint32
	}{
		{"", 2166103257}, {"a", 3826044192}, {"ab", 1294289135},
		{"\x00", modelHash("\x00")}, {"\xff", modelHash("\xff")}, {"\x00\x00", modelHash("\x00\x00")}, {"ba", modelHash("ba")},
		{strings.Repeat("\xff", 1000), modelHash(strings.Repeat("\xff", 1000))},
	} {
		if h := names.Hash([]byte(c.text)); h != c.hash {
			t.Errorf("Hash(%q): %d, want %d", c.text, h, c.hash)
		}
	}
	if h := names.Hash(nil); h != 2166103257 {
		t.Errorf("Hash(nil): %d", h)
	}
}

func TestP1001Bytes(t *testing.T) {
	d := dice(1)
	for range 2000 {
		b := d.bytes(d.roll(40))
		if h := names.Hash(b); h != modelHash(string(b)) {
			t.Errorf("Hash(% x): %d, want %d", b, h, modelHash(string(b)))
		}
	}
}

func TestP1002Home(t *testing.T) {
	for _, c := range []struct {
		name           string
		replicas, home int
	}{
		{"a", 3, 0}, {"b", 3, 0}, {"c", 3, 1}, {"k", 3, 1}, {"q", 3, 2}, {"k", 5, 4}, {"a", 1, 0}, {"c", 1, 0}, {"", 1, 0},
		{"c", 0, 0}, {"c", -1, 0}, {"c", -3, 0}, {"c", math.MinInt, 0}, {"c", math.MinInt + 1, 0},
		// beyond all numbers of 32 bits nothing is left out
		{"a", 1 << 32, 3826044192}, {"a", 1<<32 + 1, 3826044192}, {"a", math.MaxInt, 3826044192}, {"a", 3826044192, 0}, {"a", 3826044193, 3826044192},
		{"", 1 << 40, 2166103257}, {"a", 1 << 31, 3826044192 - 1<<31},
	} {
		if h := names.Home(c.name, c.replicas); h != c.home {
			t.Errorf("Home(%q, %d): %d, want %d", c.name, c.replicas, h, c.home)
		}
	}
}

// Home asks nothing of a name: any bytes have one.
func TestP1002AnyName(t *testing.T) {
	for _, name := range slices.Concat(badNames(), goodNames(), []string{strings.Repeat("long", 100), "\xff\xfe"}) {
		for replicas := 1; replicas <= 70; replicas++ {
			if h := names.Home(name, replicas); h != modelHome(name, replicas) {
				t.Errorf("Home(%q, %d): %d, want %d", name, replicas, h, modelHome(name, replicas))
			}
		}
	}
}

func TestP1003Good(t *testing.T) {
	for _, name := range goodNames() {
		if !names.Good(name) {
			t.Errorf("Good(%q): false", name)
		}
	}
	for _, name := range badNames() {
		if names.Good(name) {
			t.Errorf("Good(%q): true", name)
		}
	}
}

// Each byte, at each place of a name of each length.
func TestP1003EachByte(t *testing.T) {
	for length := 1; length <= 18; length++ {
		for place := range length {
			for c := range 256 {
				name := []byte(strings.Repeat("n", length))
				name[place] = byte(c)
				if want := length <= 16 && c >= 33 && c <= 126; names.Good(string(name)) != want {
					t.Errorf("Good(%q): %v", name, !want)
				}
			}
		}
	}
}

func TestP1004New(t *testing.T) {
	for replicas := 2; replicas <= 16; replicas++ {
		for me := range replicas {
			for perHome := 1; perHome <= 4; perHome++ {
				x := made(t, me, replicas, perHome)
				wantAll(t, x)
				wantAsked(t, x)
				wantKnows(t, x, "a", false)
				wantKnows(t, x, "", false)
			}
		}
	}
}

func TestP1004Refused(t *testing.T) {
	for _, c := range []struct {
		me, replicas, perHome int
		err                   api.Errno
	}{
		{0, 1, 1, api.ErrArg}, {0, 0, 1, api.ErrArg}, {0, -1, 1, api.ErrArg}, {9, 17, 1, api.ErrArg}, {0, 17, 4, api.ErrArg},
		{0, 2, 0, api.ErrArg}, {0, 2, -1, api.ErrArg}, {0, 2, 5, api.ErrArg}, {15, 16, 5, api.ErrArg}, {0, math.MinInt, 1, api.ErrArg},
		{0, math.MaxInt, 1, api.ErrArg}, {0, 2, math.MinInt, api.ErrArg}, {0, 2, math.MaxInt, api.ErrArg},
		{0, 1<<32 + 2, 1, api.ErrArg}, {0, 2, 1<<32 + 1, api.ErrArg}, {0, 2 + 256, 1, api.ErrArg}, {0, 2, 1 + 256, api.ErrArg},
		// the first that applies
		{2, 2, 0, api.ErrArg}, {-1, 2, 5, api.ErrArg}, {-1, 1, 1, api.ErrArg}, {17, 17, 1, api.ErrArg}, {-1, 17, 0, api.ErrArg},
		{2, 2, 1, api.ErrReplica}, {-1, 2, 1, api.ErrReplica}, {16, 16, 4, api.ErrReplica}, {3, 2, 4, api.ErrReplica},
		{math.MinInt, 16, 1, api.ErrReplica}, {math.MaxInt, 16, 1, api.ErrReplica}, {1 << 32, 2, 1, api.ErrReplica}, {256, 2, 1, api.ErrReplica},
	} {
		if x, e := names.New(c.me, c.replicas, c.perHome); x != nil || e != c.err {
			t.Errorf("New(%d, %d, %d): %v, %d, want nil, %d", c.me, c.replicas, c.perHome, x, e, c.err)
		}
	}
}

func TestP1005Make(t *testing.T) {
	x := made(t, 0, 3, 1)
	wantMade(t, x, "a", api.OK)
	wantMade(t, x, "a", api.ErrExists)
	wantMade(t, x, "a b", api.ErrArg)
	wantMade(t, x, "c", api.ErrReplica)
	wantMade(t, x, "b", api.ErrCounters)
	wantAll(t, x, "a")
	wantKnows(t, x, "b", false)
}

// A home has room for perHome names of its own, however many others it knows; one that is full refuses in the order
// that the chapter says.
func TestP1005Room(t *testing.T) {
	for replicas := 2; replicas <= 16; replicas++ {
		for perHome := 1; perHome <= 4; perHome++ {
			me := replicas - 1
			x := made(t, me, replicas, perHome)
			wantLearned(t, x, namesOf(0, replicas, 1)[0], true)
			own := namesOf(me, replicas, perHome+2)
			for _, name := range own[:perHome] {
				wantMade(t, x, name, api.OK)
			}
			wantMade(t, x, own[perHome], api.ErrCounters)
			wantMade(t, x, own[perHome+1], api.ErrCounters)
			wantMade(t, x, own[0], api.ErrExists)
			wantMade(t, x, own[perHome-1], api.ErrExists)
			wantMade(t, x, namesOf(0, replicas, 2)[1], api.ErrReplica)
			wantMade(t, x, namesOf(0, replicas, 1)[0], api.ErrReplica)
			wantMade(t, x, "", api.ErrArg)
			wantKnows(t, x, own[perHome], false)
			wantAll(t, x, slices.Sorted(slices.Values(append(own[:perHome], namesOf(0, replicas, 1)[0])))...)
		}
	}
}

// What is no name is refused, wherever it would be at home.
func TestP1005Refused(t *testing.T) {
	for me := range 2 {
		x := made(t, me, 2, 4)
		for _, name := range badNames() {
			wantMade(t, x, name, api.ErrArg)
			wantKnows(t, x, name, false)
		}
		wantAll(t, x)
	}
}

func TestP1005Names(t *testing.T) {
	for _, name := range goodNames() {
		x := made(t, modelHome(name, 7), 7, 1)
		wantMade(t, x, name, api.OK)
		wantAll(t, x, name)
	}
}

func TestP1006Learn(t *testing.T) {
	x := made(t, 0, 3, 1)
	wantMade(t, x, "a", api.OK)
	wantLearned(t, x, "a", false)
	wantLearned(t, x, "b", false)
	wantLearned(t, x, "", false)
	wantLearned(t, x, "k", true)
	wantLearned(t, x, "c", false)
	wantLearned(t, x, "k", false)
	wantAll(t, x, "a", "k")
	wantLearned(t, x, "q", true)
	wantAll(t, x, "a", "k", "q")
}

// A name whose home is me is not learned, where there is room for it too.
func TestP1006OwnHome(t *testing.T) {
	x := made(t, 0, 3, 4)
	wantLearned(t, x, "a", false)
	wantKnows(t, x, "a", false)
	wantMade(t, x, "a", api.OK)
	wantLearned(t, x, "b", false)
	wantMade(t, x, "b", api.OK)
	wantAll(t, x, "a", "b")
}

// Each home has room of its own.
func TestP1006Room(t *testing.T) {
	for perHome := 1; perHome <= 4; perHome++ {
		x := made(t, 5, 16, perHome)
		var all []string
		for home := range 16 {
			list := namesOf(home, 16, perHome+2)
			for _, name := range list[:perHome] {
				if home == 5 {
					wantMade(t, x, name, api.OK)
				} else {
					wantLearned(t, x, name, true)
				}
			}
			wantLearned(t, x, list[perHome], false)
			wantLearned(t, x, list[perHome+1], false)
			wantLearned(t, x, list[0], false)
			wantKnows(t, x, list[perHome], false)
			all = append(all, list[:perHome]...)
		}
		slices.Sort(all)
		wantAll(t, x, all...)
	}
}

func TestP1006Refused(t *testing.T) {
	for me := range 2 {
		x := made(t, me, 2, 4)
		for _, name := range badNames() {
			wantLearned(t, x, name, false)
			wantKnows(t, x, name, false)
		}
		wantAll(t, x)
	}
}

func TestP1006Names(t *testing.T) {
	for _, name := range goodNames() {
		x := made(t, (modelHome(name, 7)+1)%7, 7, 1)
		wantLearned(t, x, name, true)
		wantAll(t, x, name)
	}
}

// As Go compares strings: by bytes, and a beginning of another one ahead of it.
func TestP1007Rising(t *testing.T) {
	x := made(t, 0, 16, 4)
	for _, name := range []string{"z", "a", "aa", "Z", "a!", "~", "!", "ab", "A", "10", "9", "1"} {
		if modelHome(name, 16) == 0 {
			wantMade(t, x, name, api.OK)
		} else {
			wantLearned(t, x, name, true)
		}
	}
	wantAll(t, x, "!", "1", "10", "9", "A", "Z", "a", "a!", "aa", "ab", "z", "~")
}

func TestP1007Looking(t *testing.T) {
	x := made(t, 0, 3, 4)
	wantMade(t, x, "a", api.OK)
	wantLearned(t, x, "k", true)
	for _, name := range []string{"b", "A", "aa", "", "K", "k ", " k", "a\x00", strings.Repeat("a", 1000)} {
		wantKnows(t, x, name, false)
	}
	wantAll(t, x, "a", "k")
	wantAll(t, x, "a", "k")
}

func TestP1008Ask(t *testing.T) {
	x := made(t, 0, 3, 1)
	create := api.Op{Kind: api.OpCreate, Name: "a", A: 7, B: 3}
	wantAsk(t, x, call(4, 1), read("q"), api.OK)
	wantAsk(t, x, call(4, 1), read("q"), api.ErrPending)
	wantAsk(t, x, call(4, 1), create, api.ErrPending)
	wantAsk(t, x, call(1, 7), create, api.OK)
	wantAsked(t, x, call(1, 7), call(4, 1))
	wantTold(t, x, call(4, 1), read("q"), true)
	wantTold(t, x, call(4, 1), api.Op{}, false)
	wantAsked(t, x, call(1, 7))
	wantTold(t, x, call(1, 7), create, true)
	wantAsked(t, x)
	wantAll(t, x)
}

// A call that waits no more may wait again, with another op.
func TestP1008Again(t *testing.T) {
	x := made(t, 1, 2, 1)
	for i := range 100 {
		o := api.Op{Kind: i % 13, Name: fmt.Sprint("n", i), A: i, B: -i}
		wantAsk(t, x, call(3, 3), o, api.OK)
		wantAsked(t, x, call(3, 3))
		wantTold(t, x, call(3, 3), o, true)
		wantTold(t, x, call(3, 3), api.Op{}, false)
		wantAsked(t, x)
	}
}

func TestP1008Refused(t *testing.T) {
	x := made(t, 0, 2, 1)
	for _, name := range badNames() {
		wantAsk(t, x, call(1, 1), read(name), api.ErrArg)
		wantTold(t, x, call(1, 1), api.Op{}, false)
	}
	wantAsked(t, x)
	wantAsk(t, x, call(1, 1), read("a"), api.OK)
	for _, name := range badNames() {
		wantAsk(t, x, call(1, 1), read(name), api.ErrArg)
	}
	wantAsk(t, x, call(1, 1), read("b"), api.ErrPending)
	wantAsked(t, x, call(1, 1))
	wantTold(t, x, call(1, 1), read("a"), true)
}

// Any call may be asked for: of any session and id, any op, of a name that is known, at home here, or neither.
func TestP1008AnyCall(t *testing.T) {
	x := made(t, 0, 3, 1)
	wantMade(t, x, "a", api.OK)
	wantLearned(t, x, "k", true)
	edges := []int{math.MinInt, -1, 0, 1, 9, 10, 1 << 32, math.MaxInt}
	ops := []api.Op{{Name: "a"}, {Kind: -1, Name: "b", A: math.MinInt}, {Kind: math.MaxInt, Name: "k"}, {Kind: api.OpCreate, Name: "q", B: math.MaxInt}}
	var list []api.Call
	for i, session := range edges {
		for j, id := range edges {
			list = append(list, call(session, id))
			wantAsk(t, x, call(session, id), ops[(i+j)%len(ops)], api.OK)
		}
	}
	wantAsked(t, x, list...)
	for i, session := range edges {
		for j, id := range edges {
			wantTold(t, x, call(session, id), ops[(i+j)%len(ops)], true)
		}
	}
	wantAsked(t, x)
}

func TestP1008Rising(t *testing.T) {
	x := made(t, 0, 2, 1)
	for _, c := range []api.Call{call(2, 1), call(1, 9), call(-1, 4), call(2, -5), call(10, 0), call(1, 10), call(2, 0)} {
		wantAsk(t, x, c, read("k"), api.OK)
	}
	wantAsked(t, x, call(-1, 4), call(1, 9), call(1, 10), call(2, -5), call(2, 0), call(2, 1), call(10, 0))
}

// What waits has nothing to do with what is known.
func TestP1008Apart(t *testing.T) {
	x := made(t, 0, 3, 1)
	wantAsk(t, x, call(0, 1), api.Op{Kind: api.OpCreate, Name: "a"}, api.OK)
	wantKnows(t, x, "a", false)
	wantMade(t, x, "a", api.OK)
	wantAsked(t, x, call(0, 1))
	wantTold(t, x, call(0, 1), api.Op{Kind: api.OpCreate, Name: "a"}, true)
	wantAll(t, x, "a")
}
