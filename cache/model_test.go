package cache_test

import (
	"math"
	"testing"

	"sluice/api"
	"sluice/cache"
)

// model is the chapter: all that has ever come, and all that was ever answered.
type model struct {
	me, replicas, sessions, room int
	come                         []api.Call
	answered                     []api.Reply
}

func (m *model) has(session int) bool {
	for k := m.me; k < m.sessions; k += m.replicas {
		if k == session {
			return true
		}
	}
	return false
}

func (m *model) last(session int) int {
	last := 0
	for _, x := range m.come {
		if x.Session == session && x.Id > last {
			last = x.Id
		}
	}
	return last
}

// answer tells how a request was answered, and how many of its session have ids that are not smaller; false: it was not.
func (m *model) answer(x api.Call) (found api.Reply, above int, there bool) {
	for _, r := range m.answered {
		if r.Call == x {
			found, there = r, true
		}
		if r.Call.Session == x.Session && r.Call.Id >= x.Id {
			above++
		}
	}
	return found, above, there
}

func (m *model) isPending(x api.Call) bool {
	for _, y := range m.come {
		if x == y {
			_, _, answered := m.answer(x)
			return !answered
		}
	}
	return false
}

func (m *model) begin(x api.Call) (api.Reply, bool, api.Errno) {
	r, above, answered := m.answer(x)
	switch {
	case !m.has(x.Session):
		return noReply, false, api.ErrSession
	case x.Id < 1 || x.Id > maxRequest:
		return noReply, false, api.ErrArg
	case x.Id > m.last(x.Session)+1:
		return noReply, false, api.ErrOrder
	case x.Id == m.last(x.Session)+1:
		m.come = append(m.come, x)
		return noReply, false, api.OK
	case !answered:
		return noReply, false, api.ErrPending
	case above <= m.room:
		return r, true, api.OK
	}
	return noReply, false, api.ErrStale
}

func (m *model) end(r api.Reply) api.Errno {
	switch {
	case !m.has(r.Call.Session):
		return api.ErrSession
	case r.Call.Id > m.last(r.Call.Session):
		return api.ErrOrder
	case !m.isPending(r.Call):
		return api.ErrStale
	}
	m.answered = append(m.answered, r)
	return api.OK
}

func (m *model) pending() []api.Call {
	var list []api.Call
	for session := range m.sessions {
		for id := 1; id <= m.last(session); id++ {
			if m.isPending(call(session, id)) {
				list = append(list, call(session, id))
			}
		}
	}
	return list
}

// source tells bytes one by one, and 0 behind their end.
type source []byte

func (s *source) next() int {
	if len(*s) == 0 {
		return 0
	}
	b := (*s)[0]
	*s = (*s)[1:]
	return int(b)
}

// session is mostly one of the cache's.
func (s *source) session(m *model) int {
	n := s.next()
	if n < 230 {
		return m.me + n%2*m.replicas
	}
	return []int{-1, 0, 1, m.me - m.replicas, m.sessions, m.sessions + m.me, math.MinInt, math.MaxInt}[n%8]
}

// id is mostly one that has come, or the next.
func (s *source) id(last int) int {
	n := s.next()
	switch {
	case n < 100:
		return last + 1
	case n < 235:
		return max(0, last-n%21)
	case n < 245:
		return last + n%4
	}
	return []int{-1, math.MinInt, maxRequest, maxRequest + 1, math.MaxInt}[n%5]
}

// step plays one call at the cache and at the model.
func step(t *testing.T, c *cache.Cache, m *model, src *source) {
	kind, session := src.next()%2, src.session(m)
	x := call(session, src.id(m.last(session)))
	if kind == 0 {
		want, kept, err := m.begin(x)
		wantBegin(t, c, x, want, kept, err)
	} else {
		r := api.Reply{Call: x, Err: api.Errno(src.next() % 3), Value: src.next()}
		wantEnd(t, c, r, m.end(r))
	}
	wantPending(t, c, m.pending()...)
	wantLast(t, c, session, m.last(session))
}

// wantLike: of each request that has come both say the same, and so of the next one's next.
func wantLike(t *testing.T, c *cache.Cache, m *model) {
	for session := -1; session <= m.sessions; session++ {
		wantLast(t, c, session, m.last(session))
		for id := 0; id <= m.last(session)+2; id++ {
			if id == m.last(session)+1 {
				continue // that would be a new one
			}
			want, kept, err := m.begin(call(session, id))
			wantBegin(t, c, call(session, id), want, kept, err)
		}
	}
}

// play plays what some bytes say.
func play(t *testing.T, script []byte) {
	src := source(script)
	replicas := 2 + src.next()%15
	m := &model{me: src.next() % replicas, replicas: replicas, sessions: 1 + src.next()%64, room: 1 + src.next()%16}
	if src.next()%2 == 0 {
		m.room = 1 + m.room%4
	}
	c := made(t, m.me, m.replicas, m.sessions, m.room)
	for len(src) > 0 && !t.Failed() {
		step(t, c, m, &src)
	}
	wantLike(t, c, m)
}

// Every call, in any order, against the chapter.
func TestP1303Model(t *testing.T) {
	d := dice(13)
	for range 300 {
		play(t, d.bytes(400))
	}
}

func FuzzPlay(f *testing.F) {
	d := dice(14)
	for range 20 {
		f.Add(d.bytes(200))
	}
	f.Fuzz(play)
}
