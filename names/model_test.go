package names_test

import (
	"cmp"
	"math"
	"slices"
	"strings"
	"testing"

	"sluice/api"
	"sluice/names"
)

// modelHash reckons with numbers that never wrap.
func modelHash(text string) uint32 {
	const all = 1 << 32
	h := uint64(2166136261)
	for i := 0; i < len(text); i++ {
		low := h%256 ^ uint64(text[i])
		h = (h - h%256 + low) * 16777619 % all
	}
	return uint32(h ^ h/65536)
}

func modelHome(name string, replicas int) int {
	return int(int64(modelHash(name)) % int64(replicas))
}

func modelName(name string) bool {
	wrong := strings.IndexFunc(name, func(r rune) bool { return r <= ' ' || r > '~' })
	return len(name) > 0 && len(name) <= 16 && wrong < 0
}

type asked struct {
	call api.Call
	op   api.Op
}

// model is the chapter: names by homes, and the calls that wait, both in the order in which they came.
type model struct {
	me, perHome int
	known       [][]string
	waits       []asked
}

func (m *model) home(name string) int { return modelHome(name, len(m.known)) }

func (m *model) knows(name string) bool { return slices.Contains(m.known[m.home(name)], name) }

func (m *model) add(name string) {
	m.known[m.home(name)] = append(m.known[m.home(name)], name)
}

func (m *model) make(name string) api.Errno {
	if !modelName(name) {
		return api.ErrArg
	}
	if m.home(name) != m.me {
		return api.ErrReplica
	}
	if m.knows(name) {
		return api.ErrExists
	}
	if len(m.known[m.me]) == m.perHome {
		return api.ErrCounters
	}
	m.add(name)
	return api.OK
}

func (m *model) learn(name string) bool {
	if !modelName(name) || m.home(name) == m.me || m.knows(name) || len(m.known[m.home(name)]) == m.perHome {
		return false
	}
	m.add(name)
	return true
}

func (m *model) find(c api.Call) int {
	return slices.IndexFunc(m.waits, func(a asked) bool { return a.call == c })
}

func (m *model) ask(c api.Call, o api.Op) api.Errno {
	if !modelName(o.Name) {
		return api.ErrArg
	}
	if m.find(c) >= 0 {
		return api.ErrPending
	}
	m.waits = append(m.waits, asked{c, o})
	return api.OK
}

func (m *model) told(c api.Call) (api.Op, bool) {
	i := m.find(c)
	if i < 0 {
		return api.Op{}, false
	}
	o := m.waits[i].op
	m.waits = slices.Delete(m.waits, i, i+1)
	return o, true
}

func (m *model) all() []string {
	list := slices.Concat(m.known...)
	slices.Sort(list)
	return list
}

func (m *model) asked() []api.Call {
	var list []api.Call
	for _, a := range m.waits {
		list = append(list, a.call)
	}
	slices.SortFunc(list, func(a, b api.Call) int {
		if a.Session != b.Session {
			return cmp.Compare(a.Session, b.Session)
		}
		return cmp.Compare(a.Id, b.Id)
	})
	return list
}

// source tells bytes one by one, and 0 behind their end.
type source []byte

func (s *source) next() int {
	if len(*s) == 0 {
		return 0
	}
	b := (*s)[0]
	*s = (*s)[1:]
	return int(b)
}

// name is mostly one of few; some are none.
func (s *source) name() string {
	n := s.next()
	switch {
	case n < 150:
		return string([]byte{byte('a' + n%24)})
	case n < 200:
		return string([]byte{byte('a' + n%24), byte(s.next())})
	case n < 240:
		return strings.Repeat("n", n%18)
	}
	return string([]byte{byte(s.next())})
}

// number is mostly a small one.
func (s *source) number() int {
	n := s.next()
	switch {
	case n < 230:
		return n % 4
	case n < 245:
		return -n % 3
	}
	return []int{math.MaxInt, math.MinInt, 1 << 32}[n%3]
}

func (s *source) call() api.Call { return call(s.number(), s.number()) }

// step plays one call at the table and at the model.
func step(t *testing.T, x *names.Table, m *model, src *source) {
	t.Helper()
	switch src.next() % 4 {
	case 0:
		name := src.name()
		wantMade(t, x, name, m.make(name))
	case 1:
		name := src.name()
		wantLearned(t, x, name, m.learn(name))
	case 2:
		c, o := src.call(), api.Op{Kind: src.number(), Name: src.name(), A: src.number(), B: src.number()}
		wantAsk(t, x, c, o, m.ask(c, o))
	case 3:
		c := src.call()
		o, there := m.told(c)
		wantTold(t, x, c, o, there)
	}
	name := src.name()
	wantKnows(t, x, name, m.knows(name))
	wantAll(t, x, m.all()...)
	wantAsked(t, x, m.asked()...)
}

// play plays what some bytes say.
func play(t *testing.T, script []byte) {
	src := source(script)
	replicas := 2 + src.next()%15
	m := &model{me: src.next() % replicas, perHome: 1 + src.next()%4, known: make([][]string, replicas)}
	x := made(t, m.me, replicas, m.perHome)
	for len(src) > 0 && !t.Failed() {
		step(t, x, m, &src)
	}
}

// Every call, in any order, against the chapter.
func TestP1009Model(t *testing.T) {
	d := dice(11)
	for range 300 {
		play(t, d.bytes(600))
	}
}

func FuzzPlay(f *testing.F) {
	d := dice(12)
	for range 20 {
		f.Add(d.bytes(300))
	}
	f.Fuzz(play)
}
