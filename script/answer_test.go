package script_test

import (
	"fmt"
	"math"
	"strings"
	"testing"

	"sluice/api"
	"sluice/cluster"
	"sluice/names"
	"sluice/script"
)

func TestP1808Example(t *testing.T) {
	stock := api.Stock{Name: "k", Cap: 10, Rights: api.Rights{Down: 4, Up: 5}, Held: 1, About: 4, Live: []api.Epoch{{Round: 2, Rank: 1}}}
	sight := api.Sight{Now: 7, Drops: 1, Stocks: []api.Stock{stock}, Next: []int{0, 5}, Calls: []api.Call{{Session: 2, Id: 9}}}
	wantAnswers(t, "1 0\nreply 2 1 0 3\n2 0\nsight 7 1\nstock k 10 0 4 5 0 0 1 0 4 0:0 2:1\nnext 0 5\nopen 2 9\n",
		api.Answer{Replies: []api.Reply{{Call: api.Call{Session: 2, Id: 1}, Value: 3}}}, api.Answer{Sight: sight})
}

func TestP1808Nothing(t *testing.T) {
	wantAnswers(t, "")
	wantAnswers(t, "1 0\n", api.Answer{})
	wantAnswers(t, "1 0\n", api.Answer{Replies: []api.Reply{}, Bag: []api.Letter{}, Witness: []api.Effect{}, Image: []byte{}, Sight: api.Sight{Next: []int{}}})
	wantAnswers(t, "1 150\n2 0\n3 -1\n", api.Answer{Err: api.ErrStep}, api.Answer{}, api.Answer{Err: -1})
	text := script.PrintAnswers(make([]api.Answer, 1234))
	if !strings.HasPrefix(text, "1 0\n2 0\n") || !strings.HasSuffix(text, "\n1233 0\n1234 0\n") || strings.Count(text, "\n") != 1234 {
		t.Errorf("1234 answers: ..%q", tail(text))
	}
}

// Each line has its numbers in their order: in every field stands another one.
func TestP1808Fields(t *testing.T) {
	wantAnswers(t, "1 9\nreply 1 2 3 4\nreply 5 6 7 8\n", api.Answer{Err: 9, Replies: []api.Reply{{Call: api.Call{Session: 1, Id: 2}, Err: 3, Value: 4}, {Call: api.Call{Session: 5, Id: 6}, Err: 7, Value: 8}}})
	wantAnswers(t, "1 0\nup\n", api.Answer{Up: true})
	wantAnswers(t, "1 0\nsight 1 2\nnext 3\n", api.Answer{Sight: api.Sight{Now: 1, Drops: 2, Next: []int{3}}})
	stock := api.Stock{
		Name: "k 1", Cap: 1, Recaps: 2, Rights: api.Rights{Down: 3, Up: 4}, Got: api.Rights{Down: 5, Up: 6}, Held: 7, Wait: 8, About: 9,
		Own: api.Epoch{Round: 10, Rank: 11}, Live: []api.Epoch{{Round: 12, Rank: 13}, {Round: 14, Rank: 15}},
	}
	wantAnswers(t, "1 0\nsight 0 0\nstock k%201 1 2 3 4 5 6 7 8 9 10:11 12:13 14:15\nstock - 0 0 0 0 0 0 0 0 0 0:0\nnext 1 2 3\n",
		api.Answer{Sight: api.Sight{Stocks: []api.Stock{stock, {}}, Next: []int{1, 2, 3}}})
	view := api.View{Name: "v", Cap: 1, Recaps: 2, Version: 3, Rights: api.Rights{Down: 4, Up: 5}, Held: 6}
	m := api.Msg{
		Kind: 1, Name: "m", Cap: 2, Recaps: 3, Epoch: api.Epoch{Round: 4, Rank: 5}, Over: api.Epoch{Round: 6, Rank: 7}, Rights: api.Rights{Down: 8, Up: 9}, Held: 10,
		Call: api.Call{Session: 11, Id: 12}, Op: api.Op{Kind: 13, Name: "o", A: 14, B: 15}, Err: 16, Value: 17, Views: []api.View{view, {}},
	}
	wantAnswers(t, "1 0\nsight 0 0\nout 1 1 m 2 3 4:5 6:7 8 9 10 11 12 13 o 14 15 16 17\nview v 1 2 3 4 5 6\nview - 0 0 0 0 0 0\n"+
		"out 1 0 - 0 0 0:0 0:0 0 0 0 0 0 0 - 0 0 0 0\nout 3 0 - 0 0 0:0 0:0 0 0 0 0 0 0 - 0 0 0 0\nnext 0\n",
		api.Answer{Sight: api.Sight{Out: [][]api.Msg{nil, {m, {}}, {}, {{}}}, Next: []int{0}}})
	wantAnswers(t, "1 0\nsight 0 0\nunder 0 1 2 3 4 a%00\nunder 0 0 0 0 0 -\nunder 2 0 0 0 0 -\nnext 0\n",
		api.Answer{Sight: api.Sight{Under: [][]api.Segment{{{From: 1, To: 2, Seq: 3, Ack: 4, Data: []byte("a\x00")}, {}}, nil, {{}}}, Next: []int{0}}})
	wantAnswers(t, "1 0\nsight 0 0\nnext 0\nopen 1 2\nopen 3 4\n",
		api.Answer{Sight: api.Sight{Next: []int{0}, Calls: []api.Call{{Session: 1, Id: 2}, {Session: 3, Id: 4}}}})
	wantAnswers(t, "1 0\nletter 1 2 x%FF\nletter 0 0 -\n", api.Answer{Bag: []api.Letter{{From: 1, To: 2, Data: []byte("x\xff")}, {}}})
	wantAnswers(t, "1 0\neffect 1 -1 3 4 k 5 6 7 8\neffect 0 0 0 0 - 0 0 0 0\n",
		api.Answer{Witness: []api.Effect{{Step: 1, Call: api.Call{Session: -1, Id: 3}, Op: api.Op{Kind: 4, Name: "k", A: 5, B: 6}, Err: 7, Value: 8}, {}}})
	wantAnswers(t, "1 0\nimage 2 1294289135\n2 0\nimage 1 3826044192\n", api.Answer{Image: []byte("ab")}, api.Answer{Image: []byte("a")})
}

// Of a sight without a Next nothing is told; all other parts are, in their order.
func TestP1808Order(t *testing.T) {
	a := api.Answer{
		Err: 1, Replies: make([]api.Reply, 1), Up: true, Bag: make([]api.Letter, 1), Witness: make([]api.Effect, 1), Image: []byte("a"),
		Sight: api.Sight{
			Now: 1, Drops: 2, Stocks: make([]api.Stock, 1), Out: [][]api.Msg{make([]api.Msg, 1)}, Under: [][]api.Segment{make([]api.Segment, 1)}, Calls: make([]api.Call, 1),
		},
	}
	ahead, behind := "1 1\nreply 0 0 0 0\nup\n", "letter 0 0 -\neffect 0 0 0 0 - 0 0 0 0\nimage 1 3826044192\n"
	wantAnswers(t, ahead+behind, a)
	a.Sight.Next = []int{0}
	sight := "sight 1 2\nstock - 0 0 0 0 0 0 0 0 0 0:0\nout 0 0 - 0 0 0:0 0:0 0 0 0 0 0 0 - 0 0 0 0\nunder 0 0 0 0 0 -\nnext 0\nopen 0 0\n"
	wantAnswers(t, ahead+sight+behind, a)
}

func TestP1808AnyNumbers(t *testing.T) {
	const low, high = math.MinInt64, math.MaxInt64
	wantAnswers(t, "1 -9223372036854775808\nreply 9223372036854775807 -9223372036854775808 9223372036854775807 -1\nsight -1 -9223372036854775808\n"+
		"stock - 0 0 0 0 0 0 0 0 0 -9223372036854775808:9223372036854775807 -1:-1\nnext -9223372036854775808 9223372036854775807\n",
		api.Answer{Err: low, Replies: []api.Reply{{Call: api.Call{Session: high, Id: low}, Err: high, Value: -1}}, Sight: api.Sight{
			Now: -1, Drops: low, Stocks: []api.Stock{{Own: api.Epoch{Round: low, Rank: high}, Live: []api.Epoch{{Round: -1, Rank: -1}}}}, Next: []int{low, high},
		}})
}

// modelAnswers is P1808, line by line.
func modelAnswers(list []api.Answer) string {
	text := ""
	say := func(form string, what ...any) { text += fmt.Sprintf(form+"\n", what...) }
	op := func(o api.Op) string { return fmt.Sprintf("%d %s %d %d", o.Kind, modelText(o.Name), o.A, o.B) }
	for i, a := range list {
		say("%d %d", i+1, int(a.Err))
		for _, r := range a.Replies {
			say("reply %d %d %d %d", r.Call.Session, r.Call.Id, int(r.Err), r.Value)
		}
		if a.Up {
			say("up")
		}
		if len(a.Sight.Next) > 0 {
			text += modelSight(a.Sight, op)
		}
		for _, l := range a.Bag {
			say("letter %d %d %s", l.From, l.To, modelText(string(l.Data)))
		}
		for _, e := range a.Witness {
			say("effect %d %d %d %s %d %d", e.Step, e.Call.Session, e.Call.Id, op(e.Op), int(e.Err), e.Value)
		}
		if len(a.Image) > 0 {
			say("image %d %d", len(a.Image), names.Hash(a.Image))
		}
	}
	return text
}

func modelSight(s api.Sight, op func(o api.Op) string) string {
	text := ""
	say := func(form string, what ...any) { text += fmt.Sprintf(form+"\n", what...) }
	epoch := func(e api.Epoch) string { return fmt.Sprintf("%d:%d", e.Round, e.Rank) }
	rights := func(r api.Rights) string { return fmt.Sprintf("%d %d", r.Down, r.Up) }
	say("sight %d %d", s.Now, s.Drops)
	for _, x := range s.Stocks {
		words := []string{epoch(x.Own)}
		for _, e := range x.Live {
			words = append(words, epoch(e))
		}
		say("stock %s %d %d %s %s %d %d %d %s", modelText(x.Name), x.Cap, x.Recaps, rights(x.Rights), rights(x.Got), x.Held, x.Wait, x.About, strings.Join(words, " "))
	}
	for i, out := range s.Out {
		for _, m := range out {
			say("out %d %d %s %d %d %s %s %s %d %d %d %s %d %d", i, m.Kind, modelText(m.Name), m.Cap, m.Recaps, epoch(m.Epoch), epoch(m.Over), rights(m.Rights), m.Held,
				m.Call.Session, m.Call.Id, op(m.Op), int(m.Err), m.Value)
			for _, v := range m.Views {
				say("view %s %d %d %d %s %d", modelText(v.Name), v.Cap, v.Recaps, v.Version, rights(v.Rights), v.Held)
			}
		}
	}
	for i, under := range s.Under {
		for _, x := range under {
			say("under %d %d %d %d %d %s", i, x.From, x.To, x.Seq, x.Ack, modelText(string(x.Data)))
		}
	}
	say("next %s", strings.Trim(fmt.Sprint(s.Next), "[]"))
	for _, c := range s.Calls {
		say("open %d %d", c.Session, c.Id)
	}
	return text
}

func TestP1808Model(t *testing.T) {
	d := dice(1808)
	for range 500 {
		var list []api.Answer
		d.fill(&list)
		wantAnswers(t, modelAnswers(list), list...)
	}
}

// played is a script in whose sights most parts have something.
const played = `# k is at home at one of both, and both use it
call 0 0 1 create k 10 4
call 1 1 1 create k 10 4
call 0 0 2 inc k 2
call 1 1 2 inc k 2
bag
see 0
see 1
deliver 0
deliver 0
tick 0
tick 1
call 0 0 3 hold k 1 3
call 1 1 3 hold k 1 3
call 0 0 4 read k
call 1 1 4 read k
call 0 0 5 reset k 2
see 0
see 1
bag
frame 0 nothing
request 1 -
crash 0
see 7
deliver 0
double 0
move 1 0
drop 0
tick 0
tick 1
see 0
see 1
witness
`

// What a cluster answers to a text is told line by line, its sights, letters and effects among them.
func TestP1808Cluster(t *testing.T) {
	c, steps, _, _, e := script.Parse(line + played)
	if e != api.OK {
		t.Fatalf("Parse: %d", e)
	}
	answers, e := cluster.Run(c, steps)
	if e != api.OK {
		t.Fatalf("Run: %d", e)
	}
	wantAnswers(t, modelAnswers(answers), answers...)
	text := script.PrintAnswers(answers)
	for _, word := range []string{"reply", "sight", "stock", "under", "next", "open", "letter", "effect"} {
		if !strings.Contains(text, "\n"+word+" ") {
			t.Errorf("there is no %s in\n%s", word, text)
		}
	}
}
