package script_test

import (
	"math"
	"reflect"
	"testing"

	"sluice/api"
	"sluice/script"
)

// fill puts anything into all that v points to; the lists in it, and lists within them, have spare room with something in it.
func (d *dice) fill(v any) { d.fillValue(reflect.ValueOf(v).Elem()) }

func (d *dice) fillValue(v reflect.Value) {
	switch v.Kind() {
	case reflect.Slice:
		n, spare := d.roll(3), d.roll(3)
		v.Set(reflect.MakeSlice(v.Type(), n+spare, n+spare))
		for i := range n + spare {
			d.fillValue(v.Index(i))
		}
		v.SetLen(n)
	case reflect.Struct:
		for i := range v.NumField() {
			d.fillValue(v.Field(i))
		}
	case reflect.String:
		v.SetString(d.text())
	case reflect.Bool:
		v.SetBool(d.roll(2) > 0)
	case reflect.Uint8:
		v.SetUint(uint64(d.roll(256)))
	default:
		v.SetInt(int64(d.number()))
	}
}

// whole tells v with each list at all its room.
func whole(v reflect.Value) reflect.Value {
	all := reflect.New(v.Type()).Elem()
	all.Set(v)
	switch v.Kind() {
	case reflect.Slice:
		n := v.Cap()
		all.Set(reflect.MakeSlice(v.Type(), n, n))
		for i := range n {
			all.Index(i).Set(whole(v.Slice(0, n).Index(i)))
		}
	case reflect.Struct:
		for i := range v.NumField() {
			all.Field(i).Set(whole(v.Field(i)))
		}
	}
	return all
}

func sameWhole(a, b any) bool {
	return reflect.DeepEqual(whole(reflect.ValueOf(a)).Interface(), whole(reflect.ValueOf(b)).Interface())
}

// Lists that are handed in, and lists within them, are as they were, up to the end of their spare room.
func TestP1809Unchanged(t *testing.T) {
	d := dice(1809)
	for range 300 {
		same := d
		var a, b []api.Answer
		d.fill(&a)
		same.fill(&b)
		if script.PrintAnswers(a); !sameWhole(a, b) {
			t.Fatalf("the answers %+v have become %+v", b, a)
		}
		var s, r []api.Step
		d.fill(&s)
		same.fill(&r)
		if script.Print(config(), s); !sameWhole(s, r) {
			t.Fatalf("the steps %+v have become %+v", r, s)
		}
	}
	for _, x := range lines {
		steps := []api.Step{x.step, {Kind: 99}}
		steps[0].Data = append(x.step.Data, 1, 2, 3)[:len(x.step.Data)]
		was := whole(reflect.ValueOf(steps)).Interface()
		if script.Print(config(), steps[:1]); !sameWhole(steps, was) {
			t.Errorf("%+v have become %+v", was, steps)
		}
	}
}

// What stands in spare room is not told.
func TestP1809SpareRoom(t *testing.T) {
	steps := []api.Step{{Kind: api.StepFrame, Data: []byte("abc")[:1]}, {Kind: 99}}
	wantPrint(t, config(), steps[:1], line+"frame 0 a\n")
	steps = []api.Step{{Kind: api.StepBag, Data: []byte("abc")[:0]}}
	wantPrint(t, config(), steps, line+"bag\n")
	answers := []api.Answer{{Image: []byte("abc")[:2], Sight: api.Sight{Next: []int{1, 2}[:0]}}, {Err: 1}}
	wantAnswers(t, "1 0\nimage 2 1294289135\n", answers[:1]...)
}

// What Parse answers is the caller's, each Data by itself, up to the end of its spare room.
func TestP1809NewMemory(t *testing.T) {
	text := line + "frame 0 abc\nframe 0 abc\nrequest 1 %00%01%02%03%04\nframe 2 abc\n"
	_, one, _, _, _ := script.Parse(text)
	_, two, _, _, _ := script.Parse(text)
	for i, s := range one {
		all := s.Data[:cap(s.Data)]
		for k := range all {
			all[k] = byte(i + 1)
		}
	}
	for i, s := range one {
		for _, b := range s.Data[:cap(s.Data)] {
			if int(b) != i+1 {
				t.Fatalf("the Data of the step %d has bytes of another one's: %v", i, s.Data[:cap(s.Data)])
			}
		}
	}
	clear(one[:cap(one)])
	want := []api.Step{frame("abc"), frame("abc"), {Kind: api.StepRequest, Replica: 1, Data: []byte{0, 1, 2, 3, 4}}, {Kind: api.StepFrame, Replica: 2, Data: []byte("abc")}}
	if !sameSteps(two, want) {
		t.Errorf("a change of one answer reaches another: %+v", two)
	}
	wantParse(t, text, config(), want...)
}

// An answer hangs on its arguments alone, whatever was asked ahead of it.
func TestP1809NothingKept(t *testing.T) {
	data := []byte("abc")
	steps := []api.Step{{Kind: api.StepFrame, Data: data}}
	text, _ := script.Print(config(), steps)
	told := script.PrintAnswers([]api.Answer{{Bag: []api.Letter{{Data: data}}}})
	clear(data)
	steps[0] = api.Step{Kind: api.StepArm, Replica: math.MinInt}
	if text != line+"frame 0 abc\n" || told != "1 0\nletter 0 0 abc\n" {
		t.Errorf("a later change reaches an answer: %q, %q", text, told)
	}
	script.Parse(line + "tick")
	script.Print(config(), []api.Step{{}})
	wantSteps(t, "tick 1\n", tick(1))
	wantRefused(t, "tick 1\n", 1, 1, api.ErrScript)
	wantPrint(t, config(), nil, line)
}
