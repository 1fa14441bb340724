package wire_test

import (
	"bytes"
	"fmt"
	"math"
	"slices"
	"strings"
	"testing"

	"sluice/api"
	"sluice/wire"
)

// good: a message of each kind, and of MsgTold one of each form.
func good() []api.Msg {
	call, op := api.Call{Session: 3, Id: 1}, api.Op{Kind: api.OpInc, Name: "k", A: 5}
	first, second, some := api.Epoch{Round: 1}, api.Epoch{Round: 1, Rank: 2}, api.Rights{Down: 5, Up: 300}
	return []api.Msg{
		{Kind: api.MsgAsk, Call: call, Op: op},
		{Kind: api.MsgTold, Call: call, Name: "k", Err: api.ErrNone},
		{Kind: api.MsgTold, Call: call, Name: "k", Cap: 10},
		{Kind: api.MsgTold, Call: call, Name: "k", Err: api.ErrExists, Cap: 10, Recaps: 2},
		{Kind: api.MsgMark, Name: "k", Cap: 10, Epoch: api.Epoch{Round: 2, Rank: 1}},
		{Kind: api.MsgYield, Name: "k", Cap: 300, Recaps: 1, Epoch: api.Epoch{Round: 1, Rank: 15}, Rights: some, Held: 2},
		{Kind: api.MsgGrant, Name: "k", Cap: 10, Epoch: first, Rights: some},
		{Kind: api.MsgAbort, Name: "k", Cap: 10, Recaps: 3, Epoch: second, Rights: some},
		{Kind: api.MsgOver, Name: "k", Cap: 10, Epoch: first, Over: second},
		{Kind: api.MsgWant, Name: "k", Cap: 10, Rights: some},
		{Kind: api.MsgGive, Name: "k", Cap: 10, Rights: some},
		{Kind: api.MsgDigest, Views: []api.View{{Name: "k", Cap: 10, Version: 1, Rights: some}, {Name: "l", Cap: 9, Recaps: 7, Version: 6, Held: 5}}},
	}
}

func fine(t *testing.T, m api.Msg) {
	t.Helper()
	want := partBytes(messageParts(m))
	b, e := wire.Encode(m)
	if !wire.Valid(m) || e != api.OK || !bytes.Equal(b, want) {
		t.Errorf("%+v: Valid %v, % x, %d; want % x", m, wire.Valid(m), b, e, want)
	}
	if n, at, e := wire.Decode(want); e != api.OK || at != 0 || !sameMsg(n, m) {
		t.Errorf("% x: %+v, %d, %d; want %+v", want, n, at, e, m)
	}
}

func refused(t *testing.T, m api.Msg) {
	t.Helper()
	if b, e := wire.Encode(m); wire.Valid(m) || e != api.ErrMsg || len(b) != 0 {
		t.Errorf("%+v: Valid %v, % x, %d; want ErrMsg", m, wire.Valid(m), b, e)
	}
}

// turned tells a message of which something is another one; its views are its own.
func turned(m api.Msg, turn func(m *api.Msg)) api.Msg {
	m.Views = slices.Clone(m.Views)
	turn(&m)
	return m
}

// bound: a number of a message and its bounds.
type bound struct {
	what      string
	in        []int // which of good has it
	low, high int
	set       func(m *api.Msg, n int)
}

var bounds = []bound{
	{"Cap", []int{2, 3, 4, 5, 6, 7, 8, 9, 10}, 1, api.MaxCap, func(m *api.Msg, n int) { m.Cap = n }},
	{"Recaps", []int{2, 3, 4, 5, 6, 7, 8, 9, 10}, 0, api.MaxRound, func(m *api.Msg, n int) { m.Recaps = n }},
	{"Epoch.Round", []int{4, 5, 6, 7, 8}, 1, api.MaxRound, func(m *api.Msg, n int) { m.Epoch.Round = n }},
	{"Epoch.Rank", []int{4, 5, 6, 7, 8}, 0, 15, func(m *api.Msg, n int) { m.Epoch.Rank = n }},
	{"Over.Round", []int{8}, 1, api.MaxRound, func(m *api.Msg, n int) { m.Over.Round = n }},
	{"Over.Rank", []int{8}, 0, 15, func(m *api.Msg, n int) { m.Over.Rank = n }},
	{"Down", []int{5, 6, 7, 9, 10}, 0, api.MaxCap, func(m *api.Msg, n int) { m.Rights.Down = n }},
	{"Up", []int{5, 6, 7, 9, 10}, 0, api.MaxCap, func(m *api.Msg, n int) { m.Rights.Up = n }},
	{"Held", []int{5}, 0, api.MaxCap, func(m *api.Msg, n int) { m.Held = n }},
	{"Session", []int{0, 1, 2, 3}, 0, 63, func(m *api.Msg, n int) { m.Call.Session = n }},
	{"Id", []int{0, 1, 2, 3}, 1, api.MaxRequest, func(m *api.Msg, n int) { m.Call.Id = n }},
	{"Op.Kind", []int{0}, 1, 11, func(m *api.Msg, n int) { m.Op.Kind = n }},
	{"a view's Cap", []int{11}, 1, api.MaxCap, func(m *api.Msg, n int) { m.Views[1].Cap = n }},
	{"a view's Recaps", []int{11}, 0, api.MaxRound, func(m *api.Msg, n int) { m.Views[1].Recaps = n }},
	{"a view's Version", []int{11}, 0, api.MaxSeq, func(m *api.Msg, n int) { m.Views[1].Version = n }},
	{"a view's Down", []int{11}, 0, api.MaxCap, func(m *api.Msg, n int) { m.Views[1].Rights.Down = n }},
	{"a view's Up", []int{11}, 0, api.MaxCap, func(m *api.Msg, n int) { m.Views[1].Rights.Up = n }},
	{"a view's Held", []int{11}, 0, api.MaxCap, func(m *api.Msg, n int) { m.Views[1].Held = n }},
	{"the first view's Cap", []int{11}, 1, api.MaxCap, func(m *api.Msg, n int) { m.Views[0].Cap = n }},
}

// TestP202Bounds: every number of every kind at its bounds, and one beyond them.
func TestP202Bounds(t *testing.T) {
	for _, x := range bounds {
		for _, i := range x.in {
			for _, n := range []int{x.low, x.low + 1, x.high - 1, x.high} {
				fine(t, turned(good()[i], func(m *api.Msg) { x.set(m, n) }))
			}
			for _, n := range []int{x.low - 1, x.high + 1, math.MinInt64, math.MaxInt64, -1} {
				refused(t, turned(good()[i], func(m *api.Msg) { x.set(m, n) }))
			}
		}
	}
}

var badNames = []string{"", strings.Repeat("k", 17), strings.Repeat("k", 300), " ", "a b", "kk ", " kk", "\x7f", "k\x7f", "\x00", "\xff", "é", "k\x80", "k\n"}

var goodNames = []string{"!", "~", "!~", "~!", strings.Repeat("!", 16), strings.Repeat("~", 16), "abcdefghijklmnop", "0"}

// TestP202Names: the names of each kind of message, of an op and of a view.
func TestP202Names(t *testing.T) {
	for i, m := range good() {
		set := func(m *api.Msg, s string) { m.Name = s }
		if m.Kind == api.MsgAsk {
			set = func(m *api.Msg, s string) { m.Op.Name = s }
		}
		if m.Kind == api.MsgDigest {
			set = func(m *api.Msg, s string) { m.Views = []api.View{{Name: s, Cap: 1}} }
		}
		for _, s := range goodNames {
			fine(t, turned(good()[i], func(m *api.Msg) { set(m, s) }))
		}
		for _, s := range badNames {
			refused(t, turned(good()[i], func(m *api.Msg) { set(m, s) }))
		}
	}
	for c := range 256 {
		m := api.Msg{Kind: api.MsgWant, Name: "a" + string([]byte{byte(c)}) + "b", Cap: 1}
		if want := c >= 33 && c <= 126; wire.Valid(m) != want {
			t.Errorf("a name with the byte %d: %v", c, !want)
		}
	}
}

// TestP202Errs: the Err of a MsgTold, and the cap that it has then or has not.
func TestP202Errs(t *testing.T) {
	told := api.Msg{Kind: api.MsgTold, Call: api.Call{Id: 1}, Name: "k"}
	for err := api.Errno(-1); err <= 300; err++ {
		bare, full := told, told
		bare.Err, full.Err, full.Cap, full.Recaps = err, err, 10, 1
		within := err >= 0 && err <= 255
		capped := err == 0 || err == 101
		if within && !capped {
			fine(t, bare)
		} else {
			refused(t, bare)
		}
		if within && capped {
			fine(t, full)
		} else {
			refused(t, full)
		}
	}
	for _, err := range []api.Errno{math.MinInt64, math.MaxInt64, 1 << 32, 256} {
		refused(t, turned(told, func(m *api.Msg) { m.Err = err }))
	}
	for _, err := range []api.Errno{api.ErrNone, 255, 1} {
		refused(t, turned(told, func(m *api.Msg) { m.Err, m.Cap = err, 1 }))
		refused(t, turned(told, func(m *api.Msg) { m.Err, m.Recaps = err, 1 }))
	}
}

// manyViews tells n views whose names rise.
func manyViews(n int) []api.View {
	list := make([]api.View, n)
	for i := range list {
		list[i] = api.View{Name: fmt.Sprintf("%03d", i), Cap: i + 1, Version: i}
	}
	return list
}

// TestP202Views: how many there are, and that their names rise as strings do.
func TestP202Views(t *testing.T) {
	for _, n := range []int{0, 1, 2, 63, 64} {
		fine(t, api.Msg{Kind: api.MsgDigest, Views: manyViews(n)})
	}
	for _, n := range []int{65, 128, 200} {
		refused(t, api.Msg{Kind: api.MsgDigest, Views: manyViews(n)})
	}
	named := func(names ...string) api.Msg {
		m := api.Msg{Kind: api.MsgDigest}
		for _, s := range names {
			m.Views = append(m.Views, api.View{Name: s, Cap: 1})
		}
		return m
	}
	for _, names := range [][]string{{"a", "b"}, {"a", "aa"}, {"B", "a"}, {"!", "!!", "~", "~!"}, {"10", "9"}, {"a!", "aa", "b"}} {
		fine(t, named(names...))
	}
	for _, names := range [][]string{{"a", "a"}, {"b", "a"}, {"aa", "a"}, {"a", "B"}, {"9", "10"}, {"a", "b", "b"}, {"b", "c", "a"}, {"c", "a", "b"}, {"a", "c", "b", "d"}, {"a", ""}, {"", "a"}} {
		refused(t, named(names...))
	}
	for i := range 3 {
		m := named("a", "b", "c")
		m.Views[i].Cap = 0
		refused(t, m)
	}
}

// strays: each number and each text of a message, not zero, with the kinds that have it.
var strays = []struct {
	what string
	of   []int
	set  func(m *api.Msg)
}{
	{"Name", []int{2, 3, 4, 5, 6, 7, 8, 9}, func(m *api.Msg) { m.Name = "k" }},
	{"Cap", []int{2, 3, 4, 5, 6, 7, 8, 9}, func(m *api.Msg) { m.Cap = 1 }},
	{"Recaps", []int{2, 3, 4, 5, 6, 7, 8, 9}, func(m *api.Msg) { m.Recaps = 1 }},
	{"Epoch", []int{3, 4, 5, 6, 7}, func(m *api.Msg) { m.Epoch = api.Epoch{Round: 1} }},
	{"Epoch.Rank", []int{3, 4, 5, 6, 7}, func(m *api.Msg) { m.Epoch.Rank = 1 }},
	{"Over", []int{7}, func(m *api.Msg) { m.Over = api.Epoch{Round: 1} }},
	{"Over.Rank", []int{7}, func(m *api.Msg) { m.Over.Rank = 1 }},
	{"Down", []int{4, 5, 6, 8, 9}, func(m *api.Msg) { m.Rights.Down = 1 }},
	{"Up", []int{4, 5, 6, 8, 9}, func(m *api.Msg) { m.Rights.Up = 1 }},
	{"Held", []int{4}, func(m *api.Msg) { m.Held = 1 }},
	{"Session", []int{1, 2}, func(m *api.Msg) { m.Call.Session = 1 }},
	{"Id", []int{1, 2}, func(m *api.Msg) { m.Call.Id = 1 }},
	{"Op.Kind", []int{1}, func(m *api.Msg) { m.Op.Kind = 1 }},
	{"Op.Name", []int{1}, func(m *api.Msg) { m.Op.Name = "k" }},
	{"A", []int{1}, func(m *api.Msg) { m.Op.A = -1 }},
	{"B", []int{1}, func(m *api.Msg) { m.Op.B = -1 }},
	{"Err", []int{2}, func(m *api.Msg) { m.Err = api.ErrExists }},
	{"Value", nil, func(m *api.Msg) { m.Value = 1 }},
	{"Value below 0", nil, func(m *api.Msg) { m.Value = -1 }},
	{"Views", []int{10}, func(m *api.Msg) { m.Views = []api.View{{Name: "k", Cap: 1}} }},
	{"Views of zeros", nil, func(m *api.Msg) { m.Views = make([]api.View, 1) }},
	{"Cap below 0", nil, func(m *api.Msg) { m.Cap = -1 }},
	{"Held below 0", nil, func(m *api.Msg) { m.Held = -1 }},
}

// TestP203Fields: each kind with each field: a message of this kind has it, or must not have it.
func TestP203Fields(t *testing.T) {
	for i, m := range good() {
		if i == 1 { // it has no cap: TestP202Errs
			continue
		}
		for _, x := range strays {
			n := turned(m, x.set)
			if slices.Contains(x.of, m.Kind) {
				fine(t, n)
			} else {
				refused(t, n)
			}
		}
	}
}

// TestP203Lacking: a message of a kind without one of the kind's fields that may not be zero.
func TestP203Lacking(t *testing.T) {
	for _, m := range good() {
		if m.Kind == api.MsgAsk || m.Kind == api.MsgTold {
			refused(t, turned(m, func(m *api.Msg) { m.Call = api.Call{} }))
		}
		if m.Kind == api.MsgAsk {
			refused(t, turned(m, func(m *api.Msg) { m.Op = api.Op{} }))
			refused(t, turned(m, func(m *api.Msg) { m.Name, m.Op.Name = "k", "" }))
			refused(t, turned(m, func(m *api.Msg) { m.Name = m.Op.Name }))
		}
		if m.Kind >= api.MsgTold && m.Kind <= api.MsgGive {
			refused(t, turned(m, func(m *api.Msg) { m.Name = "" }))
		}
		if m.Kind >= api.MsgMark && m.Kind <= api.MsgOver {
			refused(t, turned(m, func(m *api.Msg) { m.Epoch = api.Epoch{} }))
		}
		if m.Kind == api.MsgOver {
			refused(t, turned(m, func(m *api.Msg) { m.Over = api.Epoch{} }))
		}
	}
}

// TestP204Kinds: which kinds there are.
func TestP204Kinds(t *testing.T) {
	for _, m := range good() {
		fine(t, m)
		for _, kind := range []int{0, -1, 11, 12, 128 + m.Kind, 256 + m.Kind, -m.Kind, math.MinInt64, math.MaxInt64} {
			refused(t, turned(m, func(m *api.Msg) { m.Kind = kind }))
		}
	}
	refused(t, api.Msg{})
	for kind := -2; kind <= 13; kind++ {
		if m := (api.Msg{Kind: kind}); kind == api.MsgDigest {
			fine(t, m)
		} else {
			refused(t, m)
		}
	}
}

// TestP204AsAnother: a message with its Kind another one is valid if that kind has its fields, and those besides may be zero.
func TestP204AsAnother(t *testing.T) {
	others := [11][]int{
		api.MsgMark:  {api.MsgYield, api.MsgGrant, api.MsgAbort},
		api.MsgGrant: {api.MsgYield, api.MsgAbort},
		api.MsgAbort: {api.MsgYield, api.MsgGrant},
		api.MsgWant:  {api.MsgGive},
		api.MsgGive:  {api.MsgWant},
	}
	for _, m := range good() {
		for kind := api.MsgAsk; kind <= api.MsgDigest; kind++ {
			want := kind == m.Kind || slices.Contains(others[m.Kind], kind)
			if n := turned(m, func(m *api.Msg) { m.Kind = kind }); wire.Valid(n) != want {
				t.Errorf("%+v: %v", n, !want)
			}
		}
	}
}

// TestP204Empty: nil and an empty list mean the same, in every kind.
func TestP204Empty(t *testing.T) {
	for _, m := range good() {
		if m.Kind != api.MsgDigest {
			m.Views = []api.View{}
			fine(t, m)
			m.Views = make([]api.View, 0, 3)
			fine(t, m)
		}
	}
	fine(t, api.Msg{Kind: api.MsgDigest, Views: []api.View{}})
}

// TestP205Examples: the messages of chapter 2's table, byte by byte.
func TestP205Examples(t *testing.T) {
	for _, x := range []struct {
		m api.Msg
		b string
	}{
		{api.Msg{Kind: api.MsgMark, Name: "k", Cap: 10, Epoch: api.Epoch{Round: 2, Rank: 1}}, "03 01 6B 0A 00 02 01"},
		{api.Msg{Kind: api.MsgYield, Name: "k", Cap: 300, Recaps: 1, Epoch: api.Epoch{Round: 1, Rank: 15}, Rights: api.Rights{Down: 5}, Held: 2}, "04 01 6B AC 02 01 01 0F 05 00 02"},
		{api.Msg{Kind: api.MsgGrant, Name: "k", Cap: 10, Epoch: api.Epoch{Round: 1, Rank: 3}, Rights: api.Rights{Down: 8, Up: 9}}, "05 01 6B 0A 00 01 03 08 09"},
		{api.Msg{Kind: api.MsgAbort, Name: "k", Cap: 10, Recaps: 4, Epoch: api.Epoch{Round: 1, Rank: 3}, Rights: api.Rights{Up: 9}}, "06 01 6B 0A 04 01 03 00 09"},
		{api.Msg{Kind: api.MsgOver, Name: "k", Cap: 10, Epoch: api.Epoch{Round: 1}, Over: api.Epoch{Round: 1, Rank: 2}}, "07 01 6B 0A 00 01 00 01 02"},
		{api.Msg{Kind: api.MsgWant, Name: "kl", Cap: 10, Rights: api.Rights{Down: 1, Up: 2}}, "08 02 6B 6C 0A 00 01 02"},
		{api.Msg{Kind: api.MsgGive, Name: "k", Cap: 1 << 40, Rights: api.Rights{Down: 1}}, "09 01 6B 80 80 80 80 80 20 00 01 00"},
		{api.Msg{Kind: api.MsgAsk, Call: api.Call{Session: 3, Id: 1}, Op: api.Op{Kind: api.OpInc, Name: "k", A: 5}}, "01 03 01 02 01 6B 0A 00"},
		{api.Msg{Kind: api.MsgTold, Call: api.Call{Session: 3, Id: 1}, Name: "k", Err: api.ErrNone}, "02 03 01 01 6B 64"},
		{api.Msg{Kind: api.MsgTold, Call: api.Call{Session: 3, Id: 1}, Name: "k", Err: 200}, "02 03 01 01 6B C8 01"},
		{api.Msg{Kind: api.MsgTold, Call: api.Call{Session: 3, Id: 1}, Name: "k", Cap: 10}, "02 03 01 01 6B 00 0A 00"},
		{api.Msg{Kind: api.MsgTold, Call: api.Call{Session: 3, Id: 1}, Name: "k", Err: api.ErrExists, Cap: 10, Recaps: 1}, "02 03 01 01 6B 65 0A 01"},
		{api.Msg{Kind: api.MsgDigest}, "0A 00"},
		{api.Msg{Kind: api.MsgDigest, Views: []api.View{{Name: "k", Cap: 10, Version: 1, Rights: api.Rights{Down: 4, Up: 6}}}}, "0A 01 01 6B 0A 00 01 04 06 00"},
		{api.Msg{Kind: api.MsgDigest, Views: []api.View{{Name: "k", Cap: 10, Recaps: 2, Version: 1, Rights: api.Rights{Down: 4, Up: 5}, Held: 1}, {Name: "kk", Cap: 1}}}, "0A 02 01 6B 0A 02 01 04 05 01 02 6B 6B 01 00 00 00 00 00"},
	} {
		if b, e := wire.Encode(x.m); !wire.Valid(x.m) || e != api.OK || !bytes.Equal(b, raw(x.b)) {
			t.Errorf("%+v: % x, %d; want %s", x.m, b, e, x.b)
		}
		if m, at, e := wire.Decode(raw(x.b)); e != api.OK || at != 0 || !sameMsg(m, x.m) {
			t.Errorf("%s: %+v, %d, %d; want %+v", x.b, m, at, e, x.m)
		}
	}
}

// TestP205Every: many messages of each kind, against the tables' parts.
func TestP205Every(t *testing.T) {
	d := dice(1)
	for range 300 {
		for kind := api.MsgAsk; kind <= api.MsgDigest; kind++ {
			fine(t, d.message(kind))
		}
	}
}
