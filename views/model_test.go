package views_test

import (
	"math"
	"slices"
	"strings"
	"testing"

	"sluice/api"
	"sluice/views"
)

// model is the chapter: all that each has said, in the order in which it came here, with the one that counts last.
type model struct {
	me   int
	said [][]api.View // by replicas; one view a name
}

func (m *model) find(replica int, name string) int {
	return slices.IndexFunc(m.said[replica], func(v api.View) bool { return v.Name == name })
}

func modelName(name string) bool {
	wrong := strings.IndexFunc(name, func(r rune) bool { return r <= ' ' || r > '~' })
	return len(name) > 0 && len(name) <= 16 && wrong < 0
}

func modelRight(v api.View) bool {
	for _, n := range []int{v.Rights.Down, v.Rights.Up, v.Held} {
		if n < 0 || n > maxCap {
			return false
		}
	}
	all := v.Rights.Down + v.Rights.Up + v.Held
	return modelName(v.Name) && 0 < v.Cap && v.Cap <= maxCap && v.Recaps >= 0 && all <= v.Cap && v.Version > 0
}

func (m *model) tell(said api.View) api.Errno {
	said.Version = 1
	if !modelRight(said) {
		return api.ErrArg
	}
	i := m.find(m.me, said.Name)
	if i < 0 {
		if len(m.said[m.me]) == 64 {
			return api.ErrCounters
		}
		m.said[m.me] = append(m.said[m.me], said)
		return api.OK
	}
	last := &m.said[m.me][i]
	if last.Cap != said.Cap || last.Recaps != said.Recaps || last.Rights != said.Rights || last.Held != said.Held {
		said.Version = last.Version + 1
		*last = said
	}
	return api.OK
}

func (m *model) take(from int, l []api.View) (int, api.Errno) {
	if from < 0 || from >= len(m.said) || from == m.me {
		return 0, api.ErrReplica
	}
	if len(l) > 64 {
		return 0, api.ErrLong
	}
	for i, v := range l {
		if !modelRight(v) || i > 0 && !(l[i-1].Name < v.Name) {
			return 0, api.ErrArg
		}
	}
	news, then := 0, slices.Clone(m.said[from])
	for _, v := range l {
		if i := m.find(from, v.Name); i < 0 {
			then = append(then, v)
			news++
		} else if v.Version > then[i].Version {
			then[i] = v
			news++
		}
	}
	if len(then) > 64 {
		return 0, api.ErrCounters
	}
	m.said[from] = then
	return news, api.OK
}

func (m *model) digest() []api.View {
	list := slices.Clone(m.said[m.me])
	slices.SortFunc(list, func(a, b api.View) int { return strings.Compare(a.Name, b.Name) })
	return list
}

func (m *model) looks(name string) (int, bool, []api.Rights) {
	sum, there := 0, false
	known := make([]api.Rights, len(m.said))
	for replica := range m.said {
		if i := m.find(replica, name); i >= 0 {
			known[replica] = m.said[replica][i].Rights
			sum, there = sum+known[replica].Down, true
		}
	}
	return sum, there, known
}

// source tells bytes one by one, and 0 behind their end.
type source []byte

func (s *source) next() int {
	if len(*s) == 0 {
		return 0
	}
	b := (*s)[0]
	*s = (*s)[1:]
	return int(b)
}

// name is mostly one of few; some are none.
func (s *source) name(wide bool) string {
	n := s.next()
	switch {
	case wide:
		return string([]byte{'w', byte('!' + n%70)})
	case n < 200:
		return string([]byte{byte('a' + n%4)})
	case n < 240:
		return strings.Repeat("n", n%18)
	}
	return string([]byte{byte(s.next())})
}

// part is mostly a small number.
func (s *source) part() int {
	n := s.next()
	switch {
	case n < 230:
		return n % 5
	case n < 240:
		return maxCap - n%3
	case n < 250:
		return -n % 3
	}
	return math.MaxInt - n%3
}

func (s *source) view(wide bool) api.View {
	v := api.View{Name: s.name(wide), Cap: 12, Version: 1 + s.next()%5, Rights: rights(s.part(), s.part()), Held: s.part()}
	switch n := s.next(); {
	case n < 12:
		v.Cap = []int{0, 1, -1, maxCap, maxCap, maxCap + 1, math.MaxInt, math.MinInt, 2, 3, 4, 5}[n]
	case n < 30:
		v.Recaps = n%4 - 1
	case n < 34:
		v.Version = []int{0, -1, math.MaxInt, math.MinInt}[n-30]
	}
	return v
}

// list is mostly one that rises.
func (s *source) list(wide bool) []api.View {
	var l []api.View
	n := s.next() % 8
	if wide {
		n = s.next() % 70
	}
	for range n {
		l = append(l, s.view(wide))
	}
	if s.next() < 230 {
		slices.SortFunc(l, func(a, b api.View) int { return strings.Compare(a.Name, b.Name) })
		l = slices.CompactFunc(l, func(a, b api.View) bool { return a.Name == b.Name })
	}
	if s.next() < 200 {
		l = slices.DeleteFunc(l, func(v api.View) bool { return !modelRight(v) })
	}
	return l
}

// step plays one call at the views and at the model.
func step(t *testing.T, v *views.Views, m *model, src *source, wide bool) {
	t.Helper()
	if src.next()%2 == 0 {
		said := src.view(wide)
		wantTold(t, v, said, m.tell(said))
	} else {
		from, l := src.next()%(len(m.said)+2)-1, src.list(wide)
		news, err := m.take(from, l)
		wantTaken(t, v, from, l, news, err)
	}
	wantDigest(t, v, m.digest()...)
	for _, name := range []string{"a", "b", "c", "d", "n", "w!", src.name(wide)} {
		sum, there, known := m.looks(name)
		wantAbout(t, v, name, sum, there)
		wantKnown(t, v, name, known...)
	}
}

// play plays what some bytes say.
func play(t *testing.T, script []byte) {
	src := source(script)
	replicas := 2 + src.next()%15
	m := &model{me: src.next() % replicas, said: make([][]api.View, replicas)}
	wide := src.next()%4 == 0
	v := made(t, m.me, replicas)
	for len(src) > 0 && !t.Failed() {
		step(t, v, m, &src, wide)
	}
}

// Every call, in any order, against the chapter.
func TestP907Model(t *testing.T) {
	d := dice(9)
	for range 300 {
		play(t, d.bytes(600))
		play(t, append([]byte{byte(d.roll(256)), byte(d.roll(256)), 4}, d.bytes(6000)...))
	}
}

func FuzzPlay(f *testing.F) {
	d := dice(10)
	for range 20 {
		f.Add(d.bytes(300))
	}
	f.Fuzz(play)
}
