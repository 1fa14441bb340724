package wire_test

import (
	"encoding/binary"
	"math"

	"sluice/api"
)

// part: a field as it stands in bytes, as chapter 2's tables list it.
type part struct {
	what      string
	kind      int
	low, high uint64 // of a number
	hung      bool   // what follows hangs on it
	b         []byte
}

const (
	isNumber = iota
	isSigned
	isText
	isData
)

func number(what string, n, low, high int) part {
	return part{what: what, kind: isNumber, low: uint64(low), high: uint64(high), b: num(uint64(n))}
}

// length: a number by which it is told what follows.
func length(what string, n, low, high int) part {
	p := number(what, n, low, high)
	p.hung = true
	return p
}

func signed(what string, n int) part {
	return part{what: what, kind: isSigned, high: math.MaxUint64, b: binary.AppendVarint(nil, int64(n))}
}

func nameParts(s string) []part {
	return []part{length("the length of a name", len(s), 1, 16), {what: "a name", kind: isText, b: []byte(s)}}
}

func capParts(most, recaps int) []part {
	return []part{number("Cap", most, 1, api.MaxCap), number("Recaps", recaps, 0, api.MaxRound)}
}

func epochParts(e api.Epoch) []part {
	return []part{number("Round", e.Round, 1, api.MaxRound), number("Rank", e.Rank, 0, 15)}
}

func rightsParts(r api.Rights) []part {
	return []part{number("Down", r.Down, 0, api.MaxCap), number("Up", r.Up, 0, api.MaxCap)}
}

func heldParts(n int) []part { return []part{number("Held", n, 0, api.MaxCap)} }

func callParts(c api.Call) []part {
	return []part{number("Session", c.Session, 0, 63), number("Id", c.Id, 1, api.MaxRequest)}
}

func opParts(o api.Op) []part {
	return list(list1(number("an op's Kind", o.Kind, 1, 11)), nameParts(o.Name), list1(signed("A", o.A)), list1(signed("B", o.B)))
}

func viewParts(v api.View) []part {
	return list(nameParts(v.Name), capParts(v.Cap, v.Recaps), list1(number("Version", v.Version, 0, api.MaxSeq)), rightsParts(v.Rights), heldParts(v.Held))
}

func list1(p part) []part { return []part{p} }

func list(lists ...[]part) []part {
	var all []part
	for _, l := range lists {
		all = append(all, l...)
	}
	return all
}

// messageParts tells the parts of a valid message.
func messageParts(m api.Msg) []part {
	kind := list1(length("Kind", m.Kind, 1, 10))
	about := list(nameParts(m.Name), capParts(m.Cap, m.Recaps))
	switch m.Kind {
	case api.MsgAsk:
		return list(kind, callParts(m.Call), opParts(m.Op))
	case api.MsgTold:
		told := list(kind, callParts(m.Call), nameParts(m.Name), list1(length("Err", int(m.Err), 0, 255)))
		if m.Err == 0 || m.Err == 101 {
			return list(told, capParts(m.Cap, m.Recaps))
		}
		return told
	case api.MsgMark:
		return list(kind, about, epochParts(m.Epoch))
	case api.MsgYield:
		return list(kind, about, epochParts(m.Epoch), rightsParts(m.Rights), heldParts(m.Held))
	case api.MsgGrant, api.MsgAbort:
		return list(kind, about, epochParts(m.Epoch), rightsParts(m.Rights))
	case api.MsgOver:
		return list(kind, about, epochParts(m.Epoch), epochParts(m.Over))
	case api.MsgWant, api.MsgGive:
		return list(kind, about, rightsParts(m.Rights))
	}
	all := list(kind, list1(length("how many views", len(m.Views), 0, 64)))
	for _, v := range m.Views {
		all = append(all, viewParts(v)...)
	}
	return all
}

func segmentParts(s api.Segment) []part {
	low, high := 1, 4000
	if s.Seq == 0 {
		low, high = 0, 0
	}
	return []part{
		number("From", s.From, 0, 15), number("To", s.To, 0, 15), length("Seq", s.Seq, 0, api.MaxSeq), number("Ack", s.Ack, 0, api.MaxSeq),
		length("the length of Data", len(s.Data), low, high), {what: "Data", kind: isData, b: s.Data},
	}
}

func requestParts(c api.Call, o api.Op) []part { return list(callParts(c), opParts(o)) }

func replyParts(r api.Reply) []part {
	return list(callParts(r.Call), list1(number("Err", int(r.Err), 0, 255)), list1(signed("Value", r.Value)))
}

func partBytes(parts []part) []byte {
	var b []byte
	for _, p := range parts {
		b = append(b, p.b...)
	}
	return b
}

// sample: something right, in parts.
type sample struct {
	face  face
	parts []part
}

// samples tells some of everything: of each kind of message n ones, and n segments, requests, replies.
func samples(n int) []sample {
	d := dice(7)
	var all []sample
	for range n {
		for kind := api.MsgAsk; kind <= api.MsgDigest; kind++ {
			all = append(all, sample{faces[ofMessage], messageParts(d.message(kind))})
		}
		s := d.segment()
		s.Data = s.Data[:min(len(s.Data), 20)]
		all = append(all, sample{faces[ofSegment], segmentParts(s)})
		all = append(all, sample{faces[ofRequest], requestParts(d.call(), d.op())})
		all = append(all, sample{faces[ofReply], replyParts(d.reply())})
	}
	return all
}
