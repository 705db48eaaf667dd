package inverse

import (
	"math/rand"
	"slices"
	"strings"
	"testing"

	"tracery/api"
	"tracery/diagram"
	"tracery/edit"
	"tracery/ident"
	"tracery/ring"
)

func id(n int) api.ID { return api.ID{Site: 1, N: n} }

// dart is side 0 of an edge, or side 1, if n is below 0; of 0 a zero dart.
func dart(n int) api.Dart {
	switch {
	case n < 0:
		return api.Dart{Edge: id(-n), Side: 1}
	case n > 0:
		return api.Dart{Edge: id(n)}
	}
	return api.Dart{}
}

func row(ns ...int) []api.Dart {
	var l []api.Dart
	for _, n := range ns {
		l = append(l, dart(n))
	}
	return l
}

// state has a vertex of each ring, and the edges of their darts.
func state(rings ...[]api.Dart) api.State {
	var s api.State
	for i, r := range rings {
		s.D.Verts = append(s.D.Verts, api.Vertex{ID: id(i + 1), Ring: ring.Turn(r)})
		for _, x := range r {
			if x.Side == 0 {
				s.D.Edges = append(s.D.Edges, api.Edge{ID: x.Edge})
			}
		}
	}
	slices.SortFunc(s.D.Edges, func(a, b api.Edge) int { return ident.Order(a.ID, b.ID) })
	return s
}

// marked is a state of which all is set: of vertex 1 the label v1 and the attribute 1, of edge 2 e2 and -2.
func marked(s api.State) api.State {
	s = clones(s)
	for i, v := range s.D.Verts {
		s.D.Verts[i].Label, s.D.Verts[i].Attr = "v"+string(rune('0'+v.ID.N)), v.ID.N
	}
	for i, e := range s.D.Edges {
		s.D.Edges[i].Label, s.D.Edges[i].Attr = "e"+string(rune('0'+e.ID.N)), -e.ID.N
	}
	return s
}

func clones(s api.State) api.State {
	return api.State{D: diagram.Clone(s.D), Gone: slices.Clone(s.Gone)}
}

func same(a, b api.State) bool { return diagram.Same(a.D, b.D) && slices.Equal(a.Gone, b.Gone) }

func newVertex(n int) api.Op { return api.Op{Kind: api.AddVertex, ID: id(n)} }

func dropVertex(n int) api.Op { return api.Op{Kind: api.RemoveVertex, ID: id(n)} }

func dropEdge(n int) api.Op { return api.Op{Kind: api.RemoveEdge, ID: id(n)} }

// newEdge is from behind a dart of a vertex to behind one of another.
func newEdge(n, from, after, to, behind int) api.Op {
	return api.Op{Kind: api.AddEdge, ID: id(n), A: api.Corner{Vert: id(from), After: dart(after)}, B: api.Corner{Vert: id(to), After: dart(behind)}}
}

func splits(edge, vertex, other, n int) api.Op {
	return api.Op{Kind: api.SplitEdge, ID: id(edge), New: id(vertex), Other: id(other), N: n}
}

func smooth(vertex, other int) api.Op {
	return api.Op{Kind: api.SmoothVertex, ID: id(vertex), Other: id(other)}
}

func setLabel(n int, ofEdge bool, s string) api.Op {
	return api.Op{Kind: api.SetLabel, ID: id(n), OfEdge: ofEdge, Text: s}
}

func setAttr(n int, ofEdge bool, x int) api.Op {
	return api.Op{Kind: api.SetAttr, ID: id(n), OfEdge: ofEdge, N: x}
}

// P13.1

func TestOne(t *testing.T) {
	path := state(row(1), row(-1, 2), row(-2))
	two := state(row(1, 2), row(-2, -1), nil)
	cases := []struct {
		name string
		s    api.State
		o    api.Op
		want []api.Op
	}{
		{"AddVertex", edit.Empty(), newVertex(1), []api.Op{dropVertex(1)}},
		{"RemoveVertex", two, dropVertex(3), []api.Op{newVertex(3)}},
		{"RemoveVertex with label and attribute", marked(two), dropVertex(3), []api.Op{newVertex(3), setLabel(3, false, "v3"), setAttr(3, false, 3)}},
		{"AddEdge", two, newEdge(7, 1, 0, 3, 0), []api.Op{dropEdge(7)}},
		{"AddEdge to itself", two, newEdge(7, 3, 0, 3, 7), []api.Op{dropEdge(7)}},

		{"RemoveEdge of the only one", state(row(1), row(-1)), dropEdge(1), []api.Op{newEdge(1, 1, 0, 2, 0)}},
		{"RemoveEdge", two, dropEdge(2), []api.Op{newEdge(2, 1, 1, 2, -1)}},
		{"RemoveEdge of the least", state(row(1, 2, 3), row(-3, -2, -1)), dropEdge(1), []api.Op{newEdge(1, 1, 3, 2, -2)}},
		{"RemoveEdge, dart 0 at the second", state(row(-1), row(1)), dropEdge(1), []api.Op{newEdge(1, 2, 0, 1, 0)}},
		{"RemoveEdge, a dart alone at one end", path, dropEdge(1), []api.Op{newEdge(1, 1, 0, 2, 2)}},
		{"RemoveEdge with label and attribute", marked(path), dropEdge(2), []api.Op{newEdge(2, 2, -1, 3, 0), setLabel(2, true, "e2"), setAttr(2, true, -2)}},
		{"RemoveEdge of a loop alone", state(row(1, -1)), dropEdge(1), []api.Op{newEdge(1, 1, 0, 1, 1)}},
		{"RemoveEdge of a loop, dart 1 behind dart 0", state(row(1, 2, -2), row(-1)), dropEdge(2), []api.Op{newEdge(2, 1, 1, 1, 2)}},
		{"RemoveEdge of a loop, dart 0 behind dart 1", state(row(1, -2, 2), row(-1)), dropEdge(2), []api.Op{newEdge(2, 1, 1, 1, 1)}},
		{"RemoveEdge of a loop round a dart", state(row(1, 2, 3, -2), row(-1), row(-3)), dropEdge(2), []api.Op{newEdge(2, 1, 1, 1, 3)}},
		{"RemoveEdge of a loop round the first dart", state(row(1, 2, 3, -2), row(-1), row(-3)), dropEdge(3), []api.Op{newEdge(3, 1, 2, 3, 0)}},

		{"SplitEdge", two, splits(1, 8, 9, 0), []api.Op{smooth(8, 9)}},
		{"SplitEdge, N 3", two, splits(1, 8, 9, 3), []api.Op{smooth(8, 9)}},
		{"SmoothVertex, N 0", path, smooth(2, 2), []api.Op{splits(1, 2, 2, 0)}},
		{"SmoothVertex, N 1", state(row(-1), row(1, 2), row(-2)), smooth(2, 2), []api.Op{splits(1, 2, 2, 1)}},
		{"SmoothVertex, N 2", state(row(1), row(-1, -2), row(2)), smooth(2, 2), []api.Op{splits(1, 2, 2, 2)}},
		{"SmoothVertex, N 3", state(row(-1), row(1, -2), row(2)), smooth(2, 2), []api.Op{splits(1, 2, 2, 3)}},
		{"SmoothVertex, the first goes: N 3", path, smooth(2, 1), []api.Op{splits(2, 2, 1, 3)}},
		{"SmoothVertex, the first goes: N 0", state(row(-1), row(1, -2), row(2)), smooth(2, 1), []api.Op{splits(2, 2, 1, 0)}},
		{"SmoothVertex with labels and attributes", marked(path), smooth(2, 1), []api.Op{splits(2, 2, 1, 3), setLabel(2, false, "v2"), setAttr(2, false, 2), setLabel(1, true, "e1"), setAttr(1, true, -1)}},

		{"SetLabel", marked(path), setLabel(2, false, "x"), []api.Op{setLabel(2, false, "v2")}},
		{"SetLabel where there was none", path, setLabel(2, false, "x"), []api.Op{setLabel(2, false, "")}},
		{"SetLabel of an edge", marked(path), setLabel(2, true, ""), []api.Op{setLabel(2, true, "e2")}},
		{"SetAttr", marked(path), setAttr(3, false, 0), []api.Op{setAttr(3, false, 3)}},
		{"SetAttr where it was 0", path, setAttr(1, true, 9), []api.Op{setAttr(1, true, 0)}},
		{"SetAttr of an edge", marked(path), setAttr(1, true, 9), []api.Op{setAttr(1, true, -1)}},
	}
	for _, c := range cases {
		was := clones(c.s)
		if got := One(c.s, c.o); !slices.Equal(got, c.want) {
			t.Errorf("%s: %v, not %v", c.name, got, c.want)
		}
		if got, err := Of(c.s, api.Edit{Ops: []api.Op{c.o}}); !slices.Equal(got, c.want) || err != api.OK {
			t.Errorf("%s: Of: %v, %d, not %v", c.name, got, err, c.want)
		}
		if !same(c.s, was) {
			t.Errorf("%s: the state changed", c.name)
		}
		clear(One(c.s, c.o))
		if !same(c.s, was) {
			t.Errorf("%s: the state changed with the answer", c.name)
		}
	}
}

func TestOneOfLabelOrAttributeAlone(t *testing.T) {
	s := state(row(1), row(-1, 2), row(-2), nil, nil)
	s.D.Verts[1].Label, s.D.Verts[3].Label, s.D.Verts[4].Attr, s.D.Edges[1].Attr, s.D.Edges[0].Label = "a", "b", 5, 6, "c"
	for _, c := range []struct {
		o    api.Op
		want []api.Op
	}{
		{dropVertex(4), []api.Op{newVertex(4), setLabel(4, false, "b")}},
		{dropVertex(5), []api.Op{newVertex(5), setAttr(5, false, 5)}},
		{dropEdge(1), []api.Op{newEdge(1, 1, 0, 2, 2), setLabel(1, true, "c")}},
		{dropEdge(2), []api.Op{newEdge(2, 2, -1, 3, 0), setAttr(2, true, 6)}},
		{smooth(2, 2), []api.Op{splits(1, 2, 2, 0), setLabel(2, false, "a"), setAttr(2, true, 6)}},
		{smooth(2, 1), []api.Op{splits(2, 2, 1, 3), setLabel(2, false, "a"), setLabel(1, true, "c")}},
	} {
		if got := One(s, c.o); !slices.Equal(got, c.want) {
			t.Errorf("%v: %v, not %v", c.o, got, c.want)
		}
	}
}

func TestOneOfWhatCannotBeDone(t *testing.T) {
	s := state(row(1, 2), row(-2, -1), nil)
	for _, o := range []api.Op{
		{}, {Kind: 9, ID: id(1)}, newVertex(0), {Kind: api.AddVertex, ID: id(7), N: 1},
		newVertex(1), dropVertex(1), dropVertex(7), newEdge(1, 1, 0, 2, 0), newEdge(3, 1, 0, 9, 0), dropEdge(3),
		splits(3, 8, 9, 0), splits(1, 3, 9, 0), splits(1, 8, 2, 0), smooth(3, 1), smooth(7, 1), smooth(1, 7),
		setLabel(3, true, "x"), setLabel(1, true, "\n"), setAttr(4, false, 1), setAttr(1, false, api.MaxAttr+1),
	} {
		if got := One(s, o); len(got) != 0 {
			t.Errorf("%v: %v", o, got)
		}
	}
	if got := One(state(row(1, -1)), newEdge(2, 1, 1, 1, -1)); len(got) != 0 {
		t.Errorf("of one that would cross: %v", got)
	}
}

// P13.2

func TestOf(t *testing.T) {
	cases := []struct {
		name string
		s    api.State
		ops  []api.Op
		want []api.Op
		err  api.Errno
	}{
		{"the last first", edit.Empty(), []api.Op{newVertex(1), newVertex(2), newEdge(1, 1, 0, 2, 0)}, []api.Op{dropEdge(1), dropVertex(2), dropVertex(1)}, api.OK},
		{"of the state in which it was done", edit.Empty(), []api.Op{newVertex(1), setLabel(1, false, "a"), setLabel(1, false, "b")}, []api.Op{setLabel(1, false, "a"), setLabel(1, false, ""), dropVertex(1)}, api.OK},
		{"several of one", marked(state(nil, nil)), []api.Op{dropVertex(1), dropVertex(2)}, []api.Op{newVertex(2), setLabel(2, false, "v2"), setAttr(2, false, 2), newVertex(1), setLabel(1, false, "v1"), setAttr(1, false, 1)}, api.OK},
		{"more than a group", marked(state(nil, nil, nil)), []api.Op{dropVertex(1), dropVertex(2), dropVertex(3)}, []api.Op{newVertex(3), setLabel(3, false, "v3"), setAttr(3, false, 3), newVertex(2), setLabel(2, false, "v2"), setAttr(2, false, 2), newVertex(1), setLabel(1, false, "v1"), setAttr(1, false, 1)}, api.OK},
		{"none", edit.Empty(), nil, nil, api.ErrBig},
		{"too many", edit.Empty(), []api.Op{newVertex(1), newVertex(2), newVertex(3), newVertex(4), newVertex(5), newVertex(6), newVertex(7)}, nil, api.ErrBig},
		{"one that can't be done", edit.Empty(), []api.Op{newVertex(1), newVertex(1)}, nil, api.ErrThere},
		{"one that can't be done, and one that may not be", edit.Empty(), []api.Op{dropVertex(1), newVertex(0)}, nil, api.ErrArg},
		{"one that may not be", edit.Empty(), []api.Op{newVertex(1), setLabel(1, false, "\n")}, nil, api.ErrLabel},
	}
	for _, c := range cases {
		was := clones(c.s)
		if got, err := Of(c.s, api.Edit{Ops: c.ops}); !slices.Equal(got, c.want) || err != c.err {
			t.Errorf("%s: %v, %d, not %v, %d", c.name, got, err, c.want, c.err)
		}
		if !same(c.s, was) {
			t.Errorf("%s: the state changed", c.name)
		}
	}
}

func TestBack(t *testing.T) {
	s := state(nil, nil)
	many := []api.Op{newVertex(3), newVertex(4), newVertex(5), dropVertex(3), dropVertex(4), dropVertex(5), newEdge(1, 1, 0, 2, 0)}
	cases := []struct {
		name string
		ops  []api.Op
		want api.State
		err  api.Errno
	}{
		{"none", nil, s, api.OK},
		{"one", []api.Op{newEdge(1, 1, 0, 2, 0)}, state(row(1), row(-1)), api.OK},
		{"more than a group", many, state(row(1), row(-1)), api.OK},
		{"one that can't be done", []api.Op{newVertex(3), dropVertex(4), newVertex(0)}, api.State{}, api.ErrGone},
		{"one that may not be", []api.Op{newVertex(3), newVertex(0), dropVertex(4)}, api.State{}, api.ErrArg},
	}
	for _, c := range cases {
		if got, err := Back(s, c.ops); !same(got, c.want) || err != c.err {
			t.Errorf("%s: %v, %d, not %v, %d", c.name, got, err, c.want, c.err)
		}
		if !same(s, state(nil, nil)) {
			t.Errorf("%s: the state changed", c.name)
		}
	}
}

func TestBackSharesNothing(t *testing.T) {
	s := state(row(1, 2), row(-2, -1))
	s.Gone = []api.Gone{{Dart: dart(9), To: dart(1)}}
	was := clones(s)
	for _, ops := range [][]api.Op{nil, {setAttr(1, false, 0)}} {
		got, _ := Back(s, ops)
		clear(got.D.Verts[0].Ring)
		clear(got.D.Verts)
		clear(got.D.Edges)
		clear(got.Gone)
		if !same(s, was) {
			t.Errorf("of %d operations: the state changed with the answer", len(ops))
		}
	}
}

// P13.3

// chance is an edit of few names, that may be.
func chance(r *rand.Rand) api.Edit {
	name := func() api.ID { return api.ID{Site: 1 + r.Intn(2), N: 1 + r.Intn(7)} }
	corner := func() api.Corner {
		c := api.Corner{Vert: name(), After: api.Dart{Edge: name(), Side: r.Intn(2)}}
		if r.Intn(4) == 0 {
			c.After = api.Dart{}
		}
		return c
	}
	kinds := []int{1, 1, 1, 2, 3, 3, 3, 3, 4, 4, 5, 5, 6, 6, 6, 7, 7, 8, 8}
	var e api.Edit
	for range 1 + r.Intn(3) {
		o := api.Op{Kind: kinds[r.Intn(len(kinds))], ID: name()}
		switch o.Kind {
		case api.AddEdge:
			o.A, o.B = corner(), corner()
			if r.Intn(3) == 0 {
				o.B = api.Corner{Vert: o.A.Vert, After: api.Dart{Edge: o.ID}}
			}
		case api.SplitEdge:
			o.New, o.Other, o.N = name(), name(), r.Intn(4)
		case api.SmoothVertex:
			o.Other = name()
		case api.SetLabel:
			o.OfEdge, o.Text = r.Intn(2) == 0, strings.Repeat("x", r.Intn(3))
		case api.SetAttr:
			o.OfEdge, o.N = r.Intn(2) == 0, r.Intn(5)-2
		}
		e.Ops = append(e.Ops, o)
	}
	return e
}

func TestBackHasTheDiagramThatWas(t *testing.T) {
	r := rand.New(rand.NewSource(15))
	kinds := map[int]int{}
	for range 40 {
		s := edit.Empty()
		for range 800 {
			e := chance(r)
			after, err := edit.Apply(s, e)
			l, err2 := Of(s, e)
			if err != err2 {
				t.Fatalf("%v of %v: %d, not %d", e, s, err2, err)
			}
			if err != api.OK {
				if l != nil {
					t.Fatalf("%v of %v: %d, and %v", e, s, err, l)
				}
				continue
			}
			back, err := Back(after, l)
			if err != api.OK || !diagram.Same(back.D, s.D) {
				t.Fatalf("%v of %v is %v; %v takes it back to %v, %d", e, s, after, l, back, err)
			}
			for _, o := range e.Ops {
				kinds[o.Kind]++
			}
			s = after
		}
	}
	for kind := api.AddVertex; kind <= api.SetAttr; kind++ {
		if kinds[kind] < 20 {
			t.Errorf("of kind %d only %d were done", kind, kinds[kind])
		}
	}
}

// It is asked of states that may be; of others nothing is promised but an end.
func TestEnds(t *testing.T) {
	r := rand.New(rand.NewSource(16))
	for range 300 {
		var s api.State
		for range r.Intn(5) {
			var l []api.Dart
			for range r.Intn(4) {
				l = append(l, dart(r.Intn(9)-4))
			}
			s.D.Verts = append(s.D.Verts, api.Vertex{ID: id(r.Intn(5)), Ring: l})
		}
		for range r.Intn(5) {
			s.D.Edges = append(s.D.Edges, api.Edge{ID: id(r.Intn(5))})
		}
		for range 60 {
			e := chance(r)
			One(s, e.Ops[0])
			l, _ := Of(s, e)
			Back(s, l)
		}
	}
}
