package wire_test

import (
	"math/big"
	"strings"
)

// The model: chapter 2's tables as texts, and a reader that goes by them. Each word is a field; "name" is two.
const (
	aboutWords = "name cap recaps"
	viewWords  = " rising cap recaps version down up held"
)

var kindWords = [...]string{
	1:  "session id opkind name signed signed",
	2:  "session id name told",
	3:  aboutWords + " round rank",
	4:  aboutWords + " round rank down up held",
	5:  aboutWords + " round rank down up",
	6:  aboutWords + " round rank down up",
	7:  aboutWords + " round rank round rank",
	8:  aboutWords + " down up",
	9:  aboutWords + " down up",
	10: "views",
}

var faceWords = map[string]string{
	"Decode":        "kind",
	"DecodeSegment": "replica replica seq ack length",
	"DecodeRequest": "session id opkind name signed signed",
	"DecodeReply":   "session id err signed",
}

var wordBounds = map[string][2]int64{
	"kind": {1, 10}, "session": {0, 63}, "id": {1, 1 << 40}, "opkind": {1, 11}, "name": {1, 16}, "rising": {1, 16}, "told": {0, 255}, "err": {0, 255},
	"cap": {1, 1 << 40}, "recaps": {0, 1 << 40}, "round": {1, 1 << 40}, "rank": {0, 15}, "down": {0, 1 << 40}, "up": {0, 1 << 40}, "held": {0, 1 << 40},
	"version": {0, 1 << 40}, "views": {0, 64}, "replica": {0, 15}, "seq": {0, 1 << 40}, "ack": {0, 1 << 40},
}

// modelNumber reads a number at a place: how many bytes it has (0, if they end), and whether it is in its form.
func modelNumber(b []byte) (n *big.Int, bytes int, form bool) {
	n = new(big.Int)
	for i, c := range b {
		group := big.NewInt(int64(c % 128))
		n.Add(n, group.Lsh(group, uint(7*i)))
		if c < 128 || i == 9 {
			return n, i + 1, (i == 0 || c != 0) && (i < 9 || c == 1)
		}
	}
	return n, 0, false
}

// model tells of bytes whether they are right, and else the place.
func model(what string, b []byte) (int, bool) {
	words := strings.Fields(faceWords[what])
	at, seq, ahead := 0, int64(0), ""
	for len(words) > 0 {
		word := words[0]
		words = words[1:]
		n, size, form := modelNumber(b[at:])
		if size == 0 {
			return len(b), false
		}
		low, high := int64(0), int64(0)
		if limit, ok := wordBounds[word]; ok {
			low, high = limit[0], limit[1]
		} else if word == "length" && seq != 0 {
			low, high = 1, 4000
		}
		within := word == "signed" || n.Cmp(big.NewInt(low)) >= 0 && n.Cmp(big.NewInt(high)) <= 0
		if !form || !within {
			return at, false
		}
		at += size
		switch word {
		case "kind":
			words = strings.Fields(kindWords[n.Int64()])
		case "told":
			if n.Int64() == 0 || n.Int64() == 101 {
				words = []string{"cap", "recaps"}
			}
		case "views":
			words = strings.Fields(strings.Repeat(viewWords, int(n.Int64())))
		case "seq":
			seq = n.Int64()
		case "name", "rising", "length":
			end := at + int(n.Int64())
			if end > len(b) {
				return len(b), false
			}
			text := string(b[at:end])
			if word != "length" && (!printed(text) || word == "rising" && text <= ahead) {
				return at, false
			}
			at, ahead = end, text
		}
	}
	return at, at == len(b)
}

func printed(s string) bool {
	for i := range len(s) {
		if s[i] <= ' ' || s[i] > '~' {
			return false
		}
	}
	return true
}
