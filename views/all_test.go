package views_test

import (
	"slices"
	"strings"
	"testing"

	"sluice/api"
	"sluice/views"
)

// group is some replicas with their views, and the digests that each has told, the last one last.
type group struct {
	views   []*views.Views
	digests [][][]api.View
	seen    [][]int // of which of from's states another one knows
}

func grouped(t *testing.T, replicas int) *group {
	g := &group{}
	for me := range replicas {
		g.views = append(g.views, made(t, me, replicas))
		g.digests = append(g.digests, [][]api.View{nil})
		g.seen = append(g.seen, make([]int, replicas))
	}
	return g
}

func (g *group) tell(t *testing.T, me int, d *dice) {
	name := string([]byte{byte('a' + d.roll(3))})
	wantTold(t, g.views[me], view(name, 0, 20, d.roll(4), d.roll(4), d.roll(4)), api.OK)
	g.digests[me] = append(g.digests[me], g.views[me].Digest())
}

// take hands one of from's digests to another: its views of from are those of the latest one that it has taken.
func (g *group) take(t *testing.T, at, from, which int) {
	if _, e := g.views[at].Take(from, g.digests[from][which]); e != api.OK {
		t.Errorf("Take(%d, digest %d): %d", from, which, e)
	}
	g.seen[at][from] = max(g.seen[at][from], which)
}

func rightsIn(l []api.View, name string) api.Rights {
	i := slices.IndexFunc(l, func(v api.View) bool { return v.Name == name })
	if i < 0 {
		return api.Rights{}
	}
	return l[i].Rights
}

func (g *group) check(t *testing.T) {
	for at, v := range g.views {
		for _, name := range strings.Split("a b c", " ") {
			sum, known := 0, make([]api.Rights, len(g.views))
			for from := range g.views {
				which := g.seen[at][from]
				if from == at {
					which = len(g.digests[at]) - 1
				}
				known[from] = rightsIn(g.digests[from][which], name)
				sum += known[from].Down
			}
			wantKnown(t, v, name, known...)
			if got, _ := v.About(name); got != sum {
				t.Errorf("About(%q) at %d: %d, want %d", name, at, got, sum)
			}
		}
	}
}

// Digests come late, again, in any order, or never: no view goes back; at rest all tell the same.
func TestP908AtRest(t *testing.T) {
	d := dice(11)
	for range 60 {
		g := grouped(t, 2+d.roll(4))
		n := len(g.views)
		for range 120 {
			at, from := d.roll(n), d.roll(n)
			if at == from {
				g.tell(t, at, &d)
			} else {
				g.take(t, at, from, d.roll(len(g.digests[from])))
			}
			g.check(t)
		}
		for at := range n {
			for from := range n {
				if at != from {
					g.take(t, at, from, len(g.digests[from])-1)
				}
			}
		}
		g.check(t)
		for _, v := range g.views[1:] {
			for _, name := range []string{"a", "b", "c"} {
				sum, there := g.views[0].About(name)
				wantAbout(t, v, name, sum, there)
				wantKnown(t, v, name, g.views[0].Known(name)...)
			}
		}
	}
}
