package names_test

import (
	"slices"
	"testing"

	"sluice/api"
	"sluice/names"
)

// dice: numbers that hang on its beginning alone.
type dice uint64

func (d *dice) roll(n int) int {
	*d = *d*6364136223846793005 + 1442695040888963407
	return int(uint64(*d) >> 33 % uint64(n))
}

func (d *dice) bytes(n int) []byte {
	b := make([]byte, n)
	for i := range b {
		b[i] = byte(d.roll(256))
	}
	return b
}

func made(t *testing.T, me, replicas, perHome int) *names.Table {
	t.Helper()
	x, e := names.New(me, replicas, perHome)
	if e != api.OK || x == nil {
		t.Fatalf("New(%d, %d, %d): %v, %d", me, replicas, perHome, x, e)
	}
	return x
}

func call(session, id int) api.Call { return api.Call{Session: session, Id: id} }

func read(name string) api.Op { return api.Op{Kind: api.OpRead, Name: name} }

func wantMade(t *testing.T, x *names.Table, name string, err api.Errno) {
	t.Helper()
	if e := x.Make(name); e != err {
		t.Errorf("Make(%q): %d, want %d", name, e, err)
	}
}

func wantLearned(t *testing.T, x *names.Table, name string, news bool) {
	t.Helper()
	if got := x.Learn(name); got != news {
		t.Errorf("Learn(%q): %v, want %v", name, got, news)
	}
}

func wantKnows(t *testing.T, x *names.Table, name string, known bool) {
	t.Helper()
	if got := x.Knows(name); got != known {
		t.Errorf("Knows(%q): %v, want %v", name, got, known)
	}
}

// wantAll: these are known, and each of them is known by itself too.
func wantAll(t *testing.T, x *names.Table, list ...string) {
	t.Helper()
	if got := x.All(); !slices.Equal(got, list) {
		t.Errorf("All: %q, want %q", got, list)
	}
	for _, name := range list {
		wantKnows(t, x, name, true)
	}
}

func wantAsk(t *testing.T, x *names.Table, c api.Call, o api.Op, err api.Errno) {
	t.Helper()
	if e := x.Ask(c, o); e != err {
		t.Errorf("Ask(%v, %+v): %d, want %d", c, o, e, err)
	}
}

func wantTold(t *testing.T, x *names.Table, c api.Call, op api.Op, there bool) {
	t.Helper()
	if o, is := x.Told(c); o != op || is != there {
		t.Errorf("Told(%v): %+v, %v, want %+v, %v", c, o, is, op, there)
	}
}

func wantAsked(t *testing.T, x *names.Table, list ...api.Call) {
	t.Helper()
	if got := x.Asked(); !slices.Equal(got, list) {
		t.Errorf("Asked: %v, want %v", got, list)
	}
}

// namesOf tells n names of a home, in no order of the alphabet.
func namesOf(home, replicas, n int) []string {
	var list []string
	for c := 'z'; len(list) < n; c-- {
		for d := '!'; d <= '~' && len(list) < n; d++ {
			if name := string(c) + string(d); modelHome(name, replicas) == home {
				list = append(list, name)
			}
		}
	}
	return list
}

// badNames are no names.
func badNames() []string {
	return []string{
		"", " ", "a b", " a", "a ", "\x7f", "a\x7f", "k\x00", "\x00", "\x1f", "k\t", "k\n", "\u00e9", "k\xff", "\x80", "\xa1",
		"12345678901234567", "123456789012345 ", "123456789012345\u00e9", "12345678901234567890123456789012",
	}
}

// goodNames are at the edges of what is one.
func goodNames() []string {
	return []string{"!", "~", "a", "~!", "!~", "0", "Z", "@", "\"", "\\", "1234567890123456", "!~!~!~!~!~!~!~!~", "123456789012345"}
}
