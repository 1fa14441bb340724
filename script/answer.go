package script

import (
	"sluice/api"
	"sluice/names"
)

// answer tells all of an answer: P1808 says which lines there are, and in which order.
func (p *page) answer(number int, a api.Answer) {
	p.numbers(number, int(a.Err))
	p.end()
	for _, r := range a.Replies {
		p.word("reply")
		p.numbers(r.Call.Session, r.Call.Id, int(r.Err), r.Value)
		p.end()
	}
	if a.Up {
		p.word("up")
		p.end()
	}
	if len(a.Sight.Next) > 0 {
		p.sight(a.Sight)
	}
	for _, l := range a.Bag {
		p.word("letter")
		p.numbers(l.From, l.To)
		p.data(l.Data)
		p.end()
	}
	for _, e := range a.Witness {
		p.effect(e)
	}
	if len(a.Image) > 0 {
		p.word("image")
		p.numbers(len(a.Image), int(names.Hash(a.Image)))
		p.end()
	}
}

func (p *page) sight(s api.Sight) {
	p.word("sight")
	p.numbers(s.Now, s.Drops)
	p.end()
	for _, stock := range s.Stocks {
		p.stock(stock)
	}
	for to, list := range s.Out {
		for _, m := range list {
			p.message(to, m)
		}
	}
	for to, list := range s.Under {
		for _, segment := range list {
			p.segment(to, segment)
		}
	}
	p.word("next")
	p.numbers(s.Next...)
	p.end()
	for _, c := range s.Calls {
		p.word("open")
		p.numbers(c.Session, c.Id)
		p.end()
	}
}

func (p *page) stock(s api.Stock) {
	p.word("stock")
	p.name(s.Name)
	p.numbers(s.Cap, s.Recaps, s.Rights.Down, s.Rights.Up, s.Got.Down, s.Got.Up, s.Held, s.Wait, s.About)
	p.epoch(s.Own)
	for _, e := range s.Live {
		p.epoch(e)
	}
	p.end()
}

func (p *page) message(to int, m api.Msg) {
	p.word("out")
	p.numbers(to, m.Kind)
	p.name(m.Name)
	p.numbers(m.Cap, m.Recaps)
	p.epoch(m.Epoch)
	p.epoch(m.Over)
	p.numbers(m.Rights.Down, m.Rights.Up, m.Held, m.Call.Session, m.Call.Id)
	p.op(m.Op)
	p.numbers(int(m.Err), m.Value)
	p.end()
	for _, v := range m.Views {
		p.word("view")
		p.name(v.Name)
		p.numbers(v.Cap, v.Recaps, v.Version, v.Rights.Down, v.Rights.Up, v.Held)
		p.end()
	}
}

func (p *page) segment(to int, s api.Segment) {
	p.word("under")
	p.numbers(to, s.From, s.To, s.Seq, s.Ack)
	p.data(s.Data)
	p.end()
}

func (p *page) effect(e api.Effect) {
	p.word("effect")
	p.numbers(e.Step, e.Call.Session, e.Call.Id)
	p.op(e.Op)
	p.numbers(int(e.Err), e.Value)
	p.end()
}

func (p *page) op(o api.Op) {
	p.numbers(o.Kind)
	p.name(o.Name)
	p.numbers(o.A, o.B)
}
