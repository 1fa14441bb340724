package script_test

import (
	"fmt"
	"math"
	"net/url"
	"slices"
	"sort"
	"strconv"
	"strings"
	"testing"

	"sluice/api"
	"sluice/script"
)

// configForm and stepForms are the chapter's lines: # stands for a number, $ for a text word.
const configForm = "replicas # window # resend # timeout # queue # cache # counters # holds # sessions # bag #"

func stepForms() []string {
	return []string{
		"call # # # create $ # #", "call # # # hold $ # #", "call # # # take $ # #",
		"call # # # inc $ #", "call # # # dec $ #", "call # # # commit $ #", "call # # # release $ #", "call # # # reset $ #",
		"call # # # recap $ #", "call # # # read $", "call # # # look $",
		"deliver #", "drop #", "double #", "move # #", "tick #", "see #", "crash #", "restart #", "image #", "arm # # #",
		"frame # $", "request # $", "bag", "witness",
	}
}

// modelText tells the text word of bytes.
func modelText(b string) string {
	if b == "" {
		return "-"
	}
	w := ""
	for i := 0; i < len(b); i++ {
		if strings.Contains("abcdefghijklmnopqrstuvwxyzABCDEFGHIJKLMNOPQRSTUVWXYZ0123456789_.", b[i:i+1]) {
			w += b[i : i+1]
		} else {
			w += fmt.Sprintf("%%%02X", b[i])
		}
	}
	return w
}

// isWhole tells whether a word is one of a form's place.
func isWhole(place, word string) bool {
	switch place {
	case "#":
		n, err := strconv.ParseInt(word, 10, 64)
		return err == nil && strconv.FormatInt(n, 10) == word
	case "$":
		meant, err := url.PathUnescape(word)
		return word == "-" || word != "" && err == nil && modelText(meant) == word
	}
	return word == place
}

// begins tells whether a word of a form's place begins so.
func begins(place, word string) bool {
	if word == "" || isWhole(place, word) {
		return true
	}
	switch place {
	case "#":
		return word == "-"
	case "$":
		return slices.ContainsFunc(strings.Split("00 0 1 2 3 4 5 6 7 8 9 A B C D E F", " "), func(more string) bool {
			return isWhole("$", word+more)
		})
	}
	return strings.HasPrefix(place, word)
}

// fits tells whether a line is one of a form, or, if open, the beginning of one.
func fits(form, text string, open bool) bool {
	places, words := strings.Split(form, " "), strings.Split(text, " ")
	if len(words) > len(places) || !open && len(words) < len(places) {
		return false
	}
	last := len(words) - 1
	for i, w := range words[:last] {
		if !isWhole(places[i], w) {
			return false
		}
	}
	if open {
		return begins(places[last], words[last])
	}
	return isWhole(places[last], words[last])
}

// modelLines tells of the first lines of a text whether they are right, and whether there is a config among them.
func modelLines(lines []string) (right, configured bool) {
	for _, l := range lines {
		if l == "" || l[0] == '#' {
			continue
		}
		fit := func(form string) bool { return fits(form, l, false) }
		if configured && !slices.ContainsFunc(stepForms(), fit) || !configured && !fit(configForm) {
			return false, false
		}
		configured = true
	}
	return true, configured
}

// modelBegins tells whether a script begins so.
func modelBegins(text string) bool {
	lines := strings.Split(text, "\n")
	last := lines[len(lines)-1]
	right, configured := modelLines(lines[:len(lines)-1])
	if !right || last == "" || last[0] == '#' {
		return right
	}
	fit := func(form string) bool { return fits(form, last, true) }
	return configured && slices.ContainsFunc(stepForms(), fit) || !configured && fit(configForm)
}

// modelPlace is P1805 word by word, but that the first byte is sought by halves; 0, 0: it is a script.
func modelPlace(text string) (at, column int) {
	wrong := sort.Search(len(text), func(i int) bool { return !modelBegins(text[:i+1]) })
	if wrong == len(text) {
		lines := strings.Split(text, "\n")
		if right, configured := modelLines(lines[:len(lines)-1]); right && configured && lines[len(lines)-1] == "" {
			return 0, 0
		}
	}
	ahead := text[:wrong]
	return 1 + strings.Count(ahead, "\n"), wrong - strings.LastIndex(ahead, "\n")
}

// meaningful tells a text without the lines that mean nothing.
func meaningful(text string) string {
	all := ""
	for l := range strings.Lines(text) {
		if l != "\n" && l[0] != '#' {
			all += l
		}
	}
	return all
}

// judge holds Parse against the model, and Print against the text.
func judge(t *testing.T, text string) {
	t.Helper()
	at, column := modelPlace(text)
	if at > 0 {
		wantRefused(t, text, at, column, api.ErrScript)
		return
	}
	c, steps, l, k, e := script.Parse(text)
	if e != api.OK || l != 0 || k != 0 {
		t.Fatalf("Parse(%q): %d, %d, %d", text, l, k, e)
	}
	wantPrint(t, c, steps, meaningful(text))
}

// number is mostly a small one.
func (d *dice) number() int {
	switch n := d.roll(12); n {
	case 0:
		return []int{math.MaxInt, math.MinInt, math.MaxInt - 1, math.MinInt + 1, 1 << 62, -1}[d.roll(6)]
	case 1:
		return d.roll(1<<30)<<33 ^ d.roll(1<<30)<<3
	default:
		return d.roll(5*n) - 3
	}
}

// text is a few bytes, ordinary ones mostly.
func (d *dice) text() string {
	b := d.bytes(d.roll(5))
	for i := range b {
		if d.roll(3) > 0 {
			b[i] = "kK9_.-%# \n\x00\xff"[d.roll(12)]
		}
	}
	return string(b)
}

func (d *dice) config() api.Config {
	return api.Config{
		Replicas: d.number(), Window: d.number(), Resend: d.number(), Timeout: d.number(), Queue: d.number(),
		Cache: d.number(), Counters: d.number(), Holds: d.number(), Sessions: d.number(), Bag: d.number(),
	}
}

func configLine(c api.Config) string {
	return fmt.Sprintf("replicas %d window %d resend %d timeout %d queue %d cache %d counters %d holds %d sessions %d bag %d\n",
		c.Replicas, c.Window, c.Resend, c.Timeout, c.Queue, c.Cache, c.Counters, c.Holds, c.Sessions, c.Bag)
}

// step tells a step and its line.
func (d *dice) step() (api.Step, string) {
	s := api.Step{Kind: 1 + d.roll(15)}
	switch s.Kind {
	case api.StepCall:
		return d.call()
	case api.StepDeliver, api.StepDrop, api.StepDouble:
		s.I = d.number()
		return s, fmt.Sprintf("%s %d\n", map[int]string{2: "deliver", 3: "drop", 4: "double"}[s.Kind], s.I)
	case api.StepMove:
		s.I, s.J = d.number(), d.number()
		return s, fmt.Sprintf("move %d %d\n", s.I, s.J)
	case api.StepArm:
		s.Replica, s.I, s.J = d.number(), d.number(), d.number()
		return s, fmt.Sprintf("arm %d %d %d\n", s.Replica, s.I, s.J)
	case api.StepFrame, api.StepRequest:
		s.Replica, s.Data = d.number(), []byte(d.text())
		return s, fmt.Sprintf("%s %d %s\n", map[int]string{7: "frame", 8: "request"}[s.Kind], s.Replica, modelText(string(s.Data)))
	case api.StepBag:
		return s, "bag\n"
	case api.StepWitness:
		return s, "witness\n"
	}
	s.Replica = d.number()
	return s, fmt.Sprintf("%s %d\n", map[int]string{6: "tick", 9: "see", 12: "crash", 14: "restart", 15: "image"}[s.Kind], s.Replica)
}

func (d *dice) call() (api.Step, string) {
	words := []string{"", "create", "inc", "dec", "hold", "commit", "release", "read", "take", "reset", "recap", "look"}
	s := call(d.number(), d.number(), d.number(), 1+d.roll(11), d.text(), 0, 0)
	o := &s.Op
	text := fmt.Sprintf("call %d %d %d %s %s", s.Replica, s.Call.Session, s.Call.Id, words[o.Kind], modelText(o.Name))
	if o.Kind != api.OpRead && o.Kind != api.OpLook {
		o.A = d.number()
		text += fmt.Sprintf(" %d", o.A)
	}
	if o.Kind == api.OpCreate || o.Kind == api.OpHold || o.Kind == api.OpTake {
		o.B = d.number()
		text += fmt.Sprintf(" %d", o.B)
	}
	return s, text + "\n"
}

// script tells a config, steps and their text.
func (d *dice) script(n int) (api.Config, []api.Step, string) {
	c := d.config()
	text, steps := configLine(c), []api.Step{}
	for range n {
		s, l := d.step()
		text, steps = text+l, append(steps, s)
	}
	return c, steps, text
}

// strewn tells a text with lines that mean nothing among its own.
func (d *dice) strewn(text string) string {
	all := ""
	for l := range strings.Lines(text) {
		for d.roll(3) == 0 {
			all += []string{"\n", "#\n", "# a line \n", "#\r\n", "#" + strings.ReplaceAll(string(d.bytes(5)), "\n", "") + "\n"}[d.roll(5)]
		}
		all += l
	}
	return all
}

// spoilt tells a text with a byte more, or fewer, or another one, or with its end cut off.
func (d *dice) spoilt(text string) string {
	const signs = "0123456789-%_. \n#AFabcdefghiklmnopqrstuvwxyzé\xff\x00\r\t"
	i, b := d.roll(len(text)), signs[d.roll(len(signs))]
	switch d.roll(5) {
	case 0:
		return text[:i]
	case 1:
		return text[:i] + text[i+1:]
	case 2:
		return text[:i] + string([]byte{b}) + text[i+1:]
	case 3:
		j := i + 1 + d.roll(len(text)-i)
		return text[:i] + text[i:j] + text[i:]
	}
	return text[:i] + string([]byte{b}) + text[i:]
}

// Scripts as the model tells them, lines that mean nothing among them, are read as they were meant, and printed back.
func TestP1807Model(t *testing.T) {
	d := dice(1807)
	for range 2000 {
		c, steps, text := d.script(d.roll(8))
		wantParse(t, text, c, steps...)
		wantPrint(t, c, steps, text)
		more := d.strewn(text)
		wantParse(t, more, c, steps...)
		judge(t, more)
	}
}

// Texts that are scripts but for a byte or two are refused where the model says.
func TestP1805Model(t *testing.T) {
	d := dice(1805)
	for range 20000 {
		_, _, text := d.script(d.roll(4))
		text = d.spoilt(d.strewn(text))
		if text != "" && d.roll(4) == 0 {
			text = d.spoilt(text)
		}
		judge(t, text)
	}
}

// Every beginning of a text, and every one with any byte behind it, is judged as the model says.
func TestP1805EveryByte(t *testing.T) {
	for _, form := range append(stepForms(), configForm) {
		whole := line + strings.NewReplacer("#", "-10", "$", "a%2D").Replace(form) + "\n"
		if form == configForm {
			whole = line
		}
		for i := strings.LastIndex(whole[:len(whole)-1], "\n") + 1; i <= len(whole); i++ {
			judge(t, whole[:i])
			for b := range 256 {
				judge(t, whole[:i]+string([]byte{byte(b)}))
			}
		}
	}
}

// Any bytes are answered, and as the model says.
func FuzzParse(f *testing.F) {
	d := dice(18)
	for range 20 {
		_, _, text := d.script(3)
		f.Add(text)
		f.Add(d.spoilt(d.strewn(text)))
	}
	f.Fuzz(func(t *testing.T, text string) {
		if len(text) < 4000 {
			judge(t, text)
			judge(t, line+text)
		}
	})
}
