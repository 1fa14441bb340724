package views_test

import (
	"slices"
	"testing"

	"sluice/api"
	"sluice/views"
)

// dice: numbers that hang on its beginning alone.
type dice uint64

func (d *dice) roll(n int) int {
	*d = *d*6364136223846793005 + 1442695040888963407
	return int(uint64(*d) >> 33 % uint64(n))
}

func (d *dice) bytes(n int) []byte {
	b := make([]byte, n)
	for i := range b {
		b[i] = byte(d.roll(256))
	}
	return b
}

const maxCap = 1 << 40

func made(t *testing.T, me, replicas int) *views.Views {
	t.Helper()
	v, e := views.New(me, replicas)
	if e != api.OK || v == nil {
		t.Fatalf("New(%d, %d): %v, %d", me, replicas, v, e)
	}
	return v
}

func rights(down, up int) api.Rights { return api.Rights{Down: down, Up: up} }

// view is one of a counter whose cap was never turned.
func view(name string, version, limit, down, up, held int) api.View {
	return api.View{Name: name, Cap: limit, Version: version, Rights: rights(down, up), Held: held}
}

// few is a view with few rights.
func few(name string, version int) api.View { return view(name, version, 5, 1, 2, 1) }

func wantTold(t *testing.T, v *views.Views, said api.View, err api.Errno) {
	t.Helper()
	if e := v.Tell(said.Name, said.Cap, said.Recaps, said.Rights, said.Held); e != err {
		t.Errorf("Tell(%+v): %d, want %d", said, e, err)
	}
}

func wantDigest(t *testing.T, v *views.Views, list ...api.View) {
	t.Helper()
	if got := v.Digest(); !slices.Equal(got, list) {
		t.Errorf("Digest: %+v, want %+v", got, list)
	}
}

func wantTaken(t *testing.T, v *views.Views, from int, l []api.View, news int, err api.Errno) {
	t.Helper()
	if n, e := v.Take(from, l); n != news || e != err {
		t.Errorf("Take(%d, %+v): %d, %d, want %d, %d", from, l, n, e, news, err)
	}
}

func wantAbout(t *testing.T, v *views.Views, name string, sum int, there bool) {
	t.Helper()
	if got, is := v.About(name); got != sum || is != there {
		t.Errorf("About(%q): %d, %v, want %d, %v", name, got, is, sum, there)
	}
}

func wantKnown(t *testing.T, v *views.Views, name string, list ...api.Rights) {
	t.Helper()
	if got := v.Known(name); !slices.Equal(got, list) {
		t.Errorf("Known(%q): %v, want %v", name, got, list)
	}
}

// wantNothing: nobody has said anything of a name.
func wantNothing(t *testing.T, v *views.Views, name string, replicas int) {
	t.Helper()
	wantAbout(t, v, name, 0, false)
	wantKnown(t, v, name, make([]api.Rights, replicas)...)
}

// manyNames tells 64 names and one more, rising.
func manyNames() []string {
	var names []string
	for i := range 65 {
		names = append(names, string([]byte{'m', byte('!' + i)}))
	}
	return names
}

// wrongViews: each has one fault; but for that they are the view k 1: 1/2/1 of 5.
func wrongViews() []api.View {
	var list []api.View
	wrong := func(change func(v *api.View)) {
		v := few("k", 1)
		change(&v)
		list = append(list, v)
	}
	for _, name := range []string{
		"", " ", "k k", "\x7f", "k\x00", "\x00", "\x1f", "k\t", "k\n", "\u00e9", "k\xff", "\x80", "12345678901234567", "123456789012345\u00e9",
	} {
		wrong(func(v *api.View) { v.Name = name })
	}
	for _, limit := range []int{0, -1, 3, -1 << 63, maxCap + 1, 1<<63 - 1, -1 << 32} {
		wrong(func(v *api.View) { v.Cap = limit })
	}
	for _, n := range []int{-1, -2, -1 << 31, -1 << 63} {
		wrong(func(v *api.View) { v.Recaps = n })
		wrong(func(v *api.View) { v.Rights.Down = n })
		wrong(func(v *api.View) { v.Rights.Up = n })
		wrong(func(v *api.View) { v.Held = n })
	}
	for _, n := range []int{3, 6, 1 << 32, maxCap, 1<<62 + 1, 1<<63 - 1, 1<<63 - 3} {
		wrong(func(v *api.View) { v.Rights.Down = n })
		wrong(func(v *api.View) { v.Rights.Up = n + 1 })
		wrong(func(v *api.View) { v.Held = n })
	}
	// sums that leave an int come out small
	wrong(func(v *api.View) { v.Rights, v.Held = rights(1<<62, 1<<62), 1<<62 })
	wrong(func(v *api.View) { v.Rights, v.Held = rights(1<<63-1, 1<<63-1), 2 })
	wrong(func(v *api.View) { v.Rights, v.Held = rights(1<<63-1, 1), 0 })
	wrong(func(v *api.View) { v.Rights, v.Held = rights(0, 1<<63-1), 1<<63-1 })
	return list
}

// rightViews are at the edges of what is right.
func rightViews() []api.View {
	return []api.View{
		view("k", 1, 1, 0, 0, 0), view("k", 1, 1, 1, 0, 0), view("k", 1, 1, 0, 1, 0), view("k", 1, 1, 0, 0, 1),
		view("k", 1, maxCap, maxCap, 0, 0), view("k", 1, maxCap, 0, maxCap, 0), view("k", 1, maxCap, 0, 0, maxCap),
		view("k", 1, maxCap, maxCap-2, 1, 1), view("k", 1, 5, 2, 2, 1), view("!", 1, 5, 1, 1, 1), view("~", 1, 5, 1, 1, 1),
		view("1234567890123456", 1, 5, 1, 1, 1), view("!~!~!~!~!~!~!~!~", 1, 5, 1, 1, 1),
		{Name: "k", Cap: 5, Recaps: 1<<63 - 1, Version: 1}, {Name: "k", Cap: 5, Recaps: 1, Version: 1},
	}
}
