package wire

import "sluice/api"

const (
	maxRank  = api.MaxReplicas - 1
	maxErr   = 255
	maxViews = 64
	maxData  = 4000
)

// hand: a reader or a writer. What consists of fields is gone through by one function for both, so that what is read and what is written cannot part. Each call deals with one field, and gives up by a panic where it is wrong.
type hand interface {
	number(n *int, low, high int)
	signed(n *int)
	text(s *string, length int, above string) // the bytes of a name that must be above another one
	data(b *[]byte, length int)
}

func name(h hand, s *string, above string) {
	length := len(*s)
	h.number(&length, 1, api.MaxName)
	h.text(s, length, above)
}

// goodName tells whether the bytes of a name are right, its length left aside.
func goodName(s, above string) bool {
	for i := range len(s) {
		if s[i] < 33 || s[i] > 126 {
			return false
		}
	}
	return s > above
}

func caps(h hand, most, recaps *int) {
	h.number(most, 1, api.MaxCap)
	h.number(recaps, 0, api.MaxRound)
}

func epoch(h hand, e *api.Epoch) {
	h.number(&e.Round, 1, api.MaxRound)
	h.number(&e.Rank, 0, maxRank)
}

func rights(h hand, r *api.Rights) {
	h.number(&r.Down, 0, api.MaxCap)
	h.number(&r.Up, 0, api.MaxCap)
}

func held(h hand, n *int) { h.number(n, 0, api.MaxCap) }

func call(h hand, c *api.Call) {
	h.number(&c.Session, 0, api.MaxSessions-1)
	h.number(&c.Id, 1, api.MaxRequest)
}

func op(h hand, o *api.Op) {
	h.number(&o.Kind, api.OpCreate, api.OpLook)
	name(h, &o.Name, "")
	h.signed(&o.A)
	h.signed(&o.B)
}

func errno(h hand, e *api.Errno) { h.number((*int)(e), 0, maxErr) }

func view(h hand, v *api.View, above string) {
	name(h, &v.Name, above)
	caps(h, &v.Cap, &v.Recaps)
	h.number(&v.Version, 0, api.MaxSeq)
	rights(h, &v.Rights)
	held(h, &v.Held)
}

func views(h hand, list *[]api.View) {
	n := len(*list)
	h.number(&n, 0, maxViews)
	if n != len(*list) { // a reader: it begins with no views
		*list = make([]api.View, n)
	}
	above := ""
	for i := range *list {
		v := &(*list)[i]
		view(h, v, above)
		above = v.Name
	}
}

func segment(h hand, s *api.Segment) {
	h.number(&s.From, 0, maxRank)
	h.number(&s.To, 0, maxRank)
	h.number(&s.Seq, 0, api.MaxSeq)
	h.number(&s.Ack, 0, api.MaxSeq)
	low, high := 1, maxData
	if s.Seq == 0 {
		low, high = 0, 0
	}
	length := len(s.Data)
	h.number(&length, low, high)
	h.data(&s.Data, length)
}

func request(h hand, c *api.Call, o *api.Op) {
	call(h, c)
	op(h, o)
}

func reply(h hand, r *api.Reply) {
	call(h, &r.Call)
	errno(h, &r.Err)
	h.signed(&r.Value)
}
