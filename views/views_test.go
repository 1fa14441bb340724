package views_test

import (
	"math"
	"slices"
	"testing"

	"sluice/api"
	"sluice/views"
)

func TestP901New(t *testing.T) {
	for replicas := 2; replicas <= 16; replicas++ {
		for me := range replicas {
			v := made(t, me, replicas)
			wantDigest(t, v)
			wantNothing(t, v, "k", replicas)
		}
	}
}

func TestP901Refused(t *testing.T) {
	for _, c := range []struct {
		me, replicas int
		err          api.Errno
	}{
		{0, 1, api.ErrArg}, {0, 0, api.ErrArg}, {0, -1, api.ErrArg}, {0, 17, api.ErrArg}, {16, 17, api.ErrArg},
		{-1, 1, api.ErrArg}, {1, 1, api.ErrArg}, {99, 17, api.ErrArg}, {-1, 17, api.ErrArg}, {0, 1<<32 + 3, api.ErrArg},
		{0, math.MinInt, api.ErrArg}, {0, math.MaxInt, api.ErrArg}, {math.MaxInt, math.MaxInt, api.ErrArg},
		{3, 3, api.ErrReplica}, {-1, 3, api.ErrReplica}, {2, 2, api.ErrReplica}, {16, 16, api.ErrReplica},
		{-1, 16, api.ErrReplica}, {1 << 32, 3, api.ErrReplica}, {256, 3, api.ErrReplica},
		{math.MinInt, 3, api.ErrReplica}, {math.MaxInt, 3, api.ErrReplica},
	} {
		if v, e := views.New(c.me, c.replicas); v != nil || e != c.err {
			t.Errorf("New(%d, %d): %v, %d, want nil, %d", c.me, c.replicas, v, e, c.err)
		}
	}
}

// Each of the four things that are said makes a new view, the same again none.
func TestP902Versions(t *testing.T) {
	v := made(t, 1, 3)
	version := 0
	for _, said := range []api.View{
		view("k", 0, 10, 6, 3, 1), view("k", 0, 11, 6, 3, 1), {Name: "k", Cap: 11, Recaps: 1, Rights: rights(6, 3), Held: 1},
		{Name: "k", Cap: 11, Recaps: 1, Rights: rights(5, 3), Held: 1}, {Name: "k", Cap: 11, Recaps: 1, Rights: rights(5, 4), Held: 1},
		{Name: "k", Cap: 11, Recaps: 1, Rights: rights(5, 4), Held: 2}, {Name: "k", Cap: 11, Rights: rights(5, 4), Held: 2},
		view("k", 0, 10, 6, 3, 1), view("k", 0, 10, 3, 6, 1), view("k", 0, 10, 0, 0, 0),
	} {
		version++
		for range 3 {
			wantTold(t, v, said, api.OK)
			said.Version = version
			wantDigest(t, v, said)
		}
	}
}

// What a replica says of one name has nothing to do with what it says of another, or others say of this one.
func TestP902EachNameByItself(t *testing.T) {
	v := made(t, 0, 3)
	wantTaken(t, v, 1, []api.View{few("a", 40), few("b", 7)}, 2, api.OK)
	wantTold(t, v, few("b", 0), api.OK)
	wantTold(t, v, few("a", 0), api.OK)
	wantDigest(t, v, few("a", 1), few("b", 1))
	wantTold(t, v, view("b", 0, 5, 0, 0, 0), api.OK)
	wantTold(t, v, few("a", 0), api.OK)
	wantTold(t, v, few("B", 0), api.OK)
	wantDigest(t, v, few("B", 1), few("a", 1), view("b", 2, 5, 0, 0, 0))
}

func TestP902Right(t *testing.T) {
	for _, said := range rightViews() {
		v := made(t, 2, 3)
		wantTold(t, v, said, api.OK)
		wantDigest(t, v, said)
	}
}

func TestP902Refused(t *testing.T) {
	v := made(t, 2, 3)
	for _, said := range wrongViews() {
		wantTold(t, v, said, api.ErrArg)
		wantNothing(t, v, said.Name, 3)
	}
	wantDigest(t, v)
	wantTold(t, v, few("k", 0), api.OK)
	for _, said := range wrongViews() {
		wantTold(t, v, said, api.ErrArg)
	}
	wantDigest(t, v, few("k", 1))
	wantAbout(t, v, "k", 1, true)
}

func TestP902Names(t *testing.T) {
	v := made(t, 2, 3)
	names := manyNames()
	wantTaken(t, v, 0, []api.View{few("0", 1), few("1", 1)}, 2, api.OK) // those of others do not count
	for _, name := range names[:64] {
		wantTold(t, v, few(name, 0), api.OK)
	}
	wantTold(t, v, few(names[64], 0), api.ErrCounters)
	wantTold(t, v, few("0", 0), api.ErrCounters)
	wantTold(t, v, view(names[64], 0, 0, 1, 0, 0), api.ErrArg) // named first
	wantNothing(t, v, names[64], 3)
	for _, name := range names[:64] {
		wantTold(t, v, few(name, 0), api.OK)
		wantTold(t, v, view(name, 0, 5, 2, 0, 0), api.OK)
	}
	var list []api.View
	for _, name := range names[:64] {
		list = append(list, view(name, 2, 5, 2, 0, 0))
	}
	wantDigest(t, v, list...)
}

// Names rise as strings do, in whichever order they came.
func TestP903Order(t *testing.T) {
	names := []string{"!", "!!", "~", "A", "a", "aa", "aB", "b", "0", "10", "9", "~!", "a!", "1234567890123456", "123456789012345"}
	sorted := slices.Sorted(slices.Values(names))
	d := dice(3)
	for range 50 {
		v := made(t, 0, 2)
		left := slices.Clone(names)
		for len(left) > 0 {
			i := d.roll(len(left))
			wantTold(t, v, few(left[i], 0), api.OK)
			left = slices.Delete(left, i, i+1)
		}
		var list []api.View
		for _, name := range sorted {
			list = append(list, few(name, 1))
		}
		wantDigest(t, v, list...)
	}
}

// What others have said is not in it.
func TestP903OwnAlone(t *testing.T) {
	v := made(t, 1, 3)
	wantTaken(t, v, 0, []api.View{few("a", 3), few("k", 9)}, 2, api.OK)
	wantTaken(t, v, 2, []api.View{few("k", 4)}, 1, api.OK)
	wantDigest(t, v)
	wantTold(t, v, few("k", 0), api.OK)
	wantDigest(t, v, few("k", 1))
}

func TestP904Refused(t *testing.T) {
	v := made(t, 1, 3)
	wantTold(t, v, few("k", 0), api.OK)
	long := make([]api.View, 65)
	for i, name := range manyNames() {
		long[i] = few(name, 1)
	}
	for _, from := range []int{1, 3, -1, 16, math.MinInt, math.MaxInt, 1 << 32, 256} {
		wantTaken(t, v, from, nil, 0, api.ErrReplica)
		wantTaken(t, v, from, []api.View{few("k", 7)}, 0, api.ErrReplica)
		wantTaken(t, v, from, []api.View{few("", 7)}, 0, api.ErrReplica)
		wantTaken(t, v, from, long, 0, api.ErrReplica)
	}
	for _, from := range []int{0, 2} {
		wantTaken(t, v, from, long, 0, api.ErrLong)
		wantTaken(t, v, from, make([]api.View, 65), 0, api.ErrLong)
		wantTaken(t, v, from, make([]api.View, 64), 0, api.ErrArg)
		wantTaken(t, v, from, []api.View{few("b", 1), few("a", 1)}, 0, api.ErrArg)
		wantTaken(t, v, from, []api.View{few("a", 1), few("a", 2)}, 0, api.ErrArg)
		wantTaken(t, v, from, []api.View{few("a", 1), few("c", 1), few("b", 1)}, 0, api.ErrArg)
		wantTaken(t, v, from, []api.View{few("a", 1), few("b", 1), few("a", 1)}, 0, api.ErrArg)
		wantTaken(t, v, from, []api.View{few("a", 1), few("B", 1)}, 0, api.ErrArg)
		wantTaken(t, v, from, []api.View{few("9", 1), few("10", 1)}, 0, api.ErrArg)
	}
	for _, name := range []string{"a", "b", "c", "B", "9", "10", long[0].Name} {
		wantNothing(t, v, name, 3)
	}
	wantKnown(t, v, "k", rights(0, 0), rights(1, 2), rights(0, 0))
}

// One wrong view, wherever it stands, spoils the whole digest.
func TestP904WrongViews(t *testing.T) {
	list := wrongViews()
	for _, version := range []int{0, -1, math.MinInt} {
		list = append(list, few("k", version))
	}
	for _, wrong := range list {
		v := made(t, 1, 3)
		wantTaken(t, v, 0, []api.View{wrong}, 0, api.ErrArg)
		wantTaken(t, v, 0, []api.View{few("!", 2), wrong}, 0, api.ErrArg)
		wantTaken(t, v, 0, []api.View{wrong, few("z", 2)}, 0, api.ErrArg)
		wantTaken(t, v, 0, []api.View{few("!", 2), wrong, few("z", 2)}, 0, api.ErrArg)
		for _, name := range []string{"!", "z", wrong.Name} {
			wantNothing(t, v, name, 3)
		}
	}
}

func TestP904Right(t *testing.T) {
	for _, said := range rightViews() {
		v := made(t, 1, 3)
		wantTaken(t, v, 2, []api.View{said}, 1, api.OK)
		wantKnown(t, v, said.Name, rights(0, 0), rights(0, 0), said.Rights)
		wantTaken(t, v, 2, []api.View{said}, 0, api.OK)
	}
}

func TestP904News(t *testing.T) {
	v := made(t, 1, 3)
	for _, c := range []struct{ version, down, news, known int }{
		{5, 1, 1, 1}, {5, 2, 0, 1}, {4, 3, 0, 1}, {1, 4, 0, 1}, {6, 5, 1, 5}, {5, 1, 0, 5}, {100, 2, 1, 2}, {99, 3, 0, 2},
		{math.MaxInt - 1, 4, 1, 4}, {math.MaxInt, 5, 1, 5}, {math.MaxInt, 1, 0, 5}, {math.MaxInt - 1, 1, 0, 5}, {1, 1, 0, 5},
	} {
		wantTaken(t, v, 0, []api.View{view("k", c.version, 9, c.down, 0, 0)}, c.news, api.OK)
		wantKnown(t, v, "k", rights(c.known, 0), rights(0, 0), rights(0, 0))
	}
	wantTaken(t, v, 2, []api.View{few("k", 1)}, 1, api.OK) // another replica's versions are its own
	wantKnown(t, v, "k", rights(5, 0), rights(0, 0), rights(1, 2))
}

// Some views of a digest are news, others not; names that it does not have stay.
func TestP904EachByItself(t *testing.T) {
	v := made(t, 1, 3)
	wantTaken(t, v, 0, []api.View{few("a", 3), few("b", 3), few("c", 3)}, 3, api.OK)
	wantTaken(t, v, 0, []api.View{view("a", 4, 9, 7, 0, 0), view("b", 3, 9, 8, 0, 0), view("d", 1, 9, 9, 0, 0)}, 2, api.OK)
	for _, c := range []struct {
		name string
		r    api.Rights
	}{{"a", rights(7, 0)}, {"b", rights(1, 2)}, {"c", rights(1, 2)}, {"d", rights(9, 0)}} {
		wantKnown(t, v, c.name, c.r, rights(0, 0), rights(0, 0))
	}
	wantTaken(t, v, 0, nil, 0, api.OK)
	wantTaken(t, v, 0, []api.View{}, 0, api.OK)
	wantAbout(t, v, "a", 7, true)
}

func TestP904Names(t *testing.T) {
	v := made(t, 1, 3)
	names := manyNames()
	var list []api.View
	for _, name := range names {
		list = append(list, few(name, 1))
	}
	wantTold(t, v, few("0", 0), api.OK) // own names do not count, and those of a third one neither
	wantTaken(t, v, 2, []api.View{few("1", 1)}, 1, api.OK)
	wantTaken(t, v, 0, list[:64], 64, api.OK)
	wantTaken(t, v, 0, list[64:], 0, api.ErrCounters)
	wantTaken(t, v, 0, list[1:], 0, api.ErrCounters)
	wantTaken(t, v, 0, []api.View{view(names[0], 2, 5, 2, 0, 0), few(names[64], 1)}, 0, api.ErrCounters)
	wantTaken(t, v, 0, []api.View{few(names[64], 0)}, 0, api.ErrArg) // named first
	wantKnown(t, v, names[0], rights(1, 2), rights(0, 0), rights(0, 0))
	wantNothing(t, v, names[64], 3)
	wantTaken(t, v, 0, []api.View{view(names[0], 2, 5, 2, 0, 0)}, 1, api.OK)
	wantTaken(t, v, 0, list[:64], 0, api.OK)
	wantTaken(t, v, 2, list[2:], 63, api.OK)
	wantTaken(t, v, 2, list[1:3], 0, api.ErrCounters)
	wantTaken(t, v, 2, []api.View{view(names[2], 2, 5, 2, 0, 0)}, 1, api.OK)
}

func TestP905About(t *testing.T) {
	v := made(t, 1, 4)
	wantAbout(t, v, "k", 0, false)
	wantTaken(t, v, 3, []api.View{view("k", 2, 9, 4, 5, 0)}, 1, api.OK)
	wantAbout(t, v, "k", 4, true)
	wantTold(t, v, view("k", 0, 9, 2, 0, 7), api.OK)
	wantAbout(t, v, "k", 6, true)
	wantTaken(t, v, 0, []api.View{view("j", 1, 9, 9, 0, 0), view("k", 1, 9, 3, 0, 0)}, 2, api.OK)
	wantAbout(t, v, "k", 9, true)
	wantTaken(t, v, 3, []api.View{view("k", 3, 9, 0, 0, 0)}, 1, api.OK)
	wantAbout(t, v, "k", 5, true)
	for _, name := range []string{"", "kk", "K", "k ", "12345678901234567", "\xff"} {
		wantNothing(t, v, name, 4)
	}
}

// Nothing is something that one may say of a counter.
func TestP905NothingThere(t *testing.T) {
	for from := range 3 {
		v := made(t, 1, 3)
		if from == 1 {
			wantTold(t, v, view("k", 0, 9, 0, 4, 5), api.OK)
		} else {
			wantTaken(t, v, from, []api.View{view("k", 1, 9, 0, 4, 5)}, 1, api.OK)
		}
		wantAbout(t, v, "k", 0, true)
	}
}

// In between it may be far above the cap.
func TestP905GreatestSum(t *testing.T) {
	v := made(t, 15, 16)
	all := view("k", 1, maxCap, maxCap, 0, 0)
	for from := range 15 {
		wantTaken(t, v, from, []api.View{all}, 1, api.OK)
	}
	wantTold(t, v, all, api.OK)
	wantAbout(t, v, "k", 16*maxCap, true)
}

func TestP906Known(t *testing.T) {
	for replicas := 2; replicas <= 16; replicas++ {
		for me := range replicas {
			v := made(t, me, replicas)
			list := make([]api.Rights, replicas)
			for from := replicas - 1; from >= 0; from-- {
				list[from] = rights(from+1, 20-from)
				said := view("k", 1, 30, from+1, 20-from, 2)
				if from == me {
					wantTold(t, v, said, api.OK)
				} else {
					wantTaken(t, v, from, []api.View{said}, 1, api.OK)
				}
				wantKnown(t, v, "k", list...)
			}
			wantKnown(t, v, "j", make([]api.Rights, replicas)...)
		}
	}
}

// The table of the chapter's end.
func TestP908Examples(t *testing.T) {
	zero, one := made(t, 0, 3), made(t, 1, 3)
	wantTold(t, zero, view("k", 0, 10, 6, 3, 1), api.OK)
	wantTold(t, zero, view("k", 0, 10, 6, 3, 1), api.OK)
	first := zero.Digest()
	wantDigest(t, zero, view("k", 1, 10, 6, 3, 1))
	for _, said := range []api.View{view("k", 0, 10, 6, 4, 1), few("", 0), view("k", 0, 0, 0, 0, 0), view("k", 0, 10, -1, 0, 0)} {
		wantTold(t, zero, said, api.ErrArg)
	}
	wantTold(t, zero, view("k", 0, 10, 5, 4, 1), api.OK)
	wantTold(t, zero, view("b", 0, 4, 4, 0, 0), api.OK)
	wantDigest(t, zero, view("b", 1, 4, 4, 0, 0), view("k", 2, 10, 5, 4, 1))
	second := zero.Digest()
	wantNothing(t, one, "k", 3)
	wantTaken(t, one, 0, second, 2, api.OK)
	wantTaken(t, one, 0, second, 0, api.OK)
	wantTaken(t, one, 0, first, 0, api.OK)
	wantTold(t, one, view("k", 0, 10, 2, 0, 0), api.OK)
	wantAbout(t, one, "k", 7, true)
	wantKnown(t, one, "k", rights(5, 4), rights(2, 0), rights(0, 0))
	wantTaken(t, one, 1, nil, 0, api.ErrReplica)
	wantTaken(t, one, 3, nil, 0, api.ErrReplica)
	slices.Reverse(second)
	wantTaken(t, one, 0, second, 0, api.ErrArg)
	wantTaken(t, one, 0, nil, 0, api.OK)
}
