package edit

import (
	"math/rand"
	"slices"
	"strings"
	"testing"

	"tracery/api"
	"tracery/diagram"
	"tracery/euler"
	"tracery/ident"
	"tracery/op"
	"tracery/ring"
)

func id(n int) api.ID { return api.ID{Site: 1, N: n} }

// dart is side 0 of an edge, or side 1, if n is below 0; of 0 a zero dart.
func dart(n int) api.Dart {
	switch {
	case n < 0:
		return api.Dart{Edge: id(-n), Side: 1}
	case n > 0:
		return api.Dart{Edge: id(n)}
	}
	return api.Dart{}
}

func row(ns ...int) []api.Dart {
	var l []api.Dart
	for _, n := range ns {
		l = append(l, dart(n))
	}
	return l
}

// gone are darts and what is told of them, by twos.
func gone(ns ...int) []api.Gone {
	var l []api.Gone
	for i := 0; i+1 < len(ns); i += 2 {
		l = append(l, api.Gone{Dart: dart(ns[i]), To: dart(ns[i+1])})
	}
	return l
}

// state has a vertex of each ring, the edges of their darts, and darts that are gone.
func state(l []api.Gone, rings ...[]api.Dart) api.State {
	s := api.State{Gone: l}
	for i, r := range rings {
		s.D.Verts = append(s.D.Verts, api.Vertex{ID: id(i + 1), Ring: ring.Turn(r)})
		for _, x := range r {
			if x.Side == 0 {
				s.D.Edges = append(s.D.Edges, api.Edge{ID: x.Edge})
			}
		}
	}
	slices.SortFunc(s.D.Edges, func(a, b api.Edge) int { return ident.Order(a.ID, b.ID) })
	return s
}

// without is a state without one of its vertices.
func without(s api.State, n int) api.State {
	s.D.Verts = slices.DeleteFunc(s.D.Verts, func(v api.Vertex) bool { return v.ID == id(n) })
	return s
}

// big has 24 vertices, and as many edges between the first two.
func big(verts, edges int) api.State {
	var s api.State
	for n := range verts {
		s.D.Verts = append(s.D.Verts, api.Vertex{ID: id(n + 1)})
	}
	for n := range edges {
		s.D.Edges = append(s.D.Edges, api.Edge{ID: id(n + 1)})
		s.D.Verts[0].Ring = append(s.D.Verts[0].Ring, dart(n+1))
		s.D.Verts[1].Ring = append([]api.Dart{dart(-n - 1)}, s.D.Verts[1].Ring...)
	}
	for i := range min(verts, 2) {
		s.D.Verts[i].Ring = ring.Turn(s.D.Verts[i].Ring)
	}
	return s
}

func same(a, b api.State) bool { return diagram.Same(a.D, b.D) && slices.Equal(a.Gone, b.Gone) }

func clones(s api.State) api.State {
	return api.State{D: diagram.Clone(s.D), Gone: slices.Clone(s.Gone)}
}

func newVertex(n int) api.Op { return api.Op{Kind: api.AddVertex, ID: id(n)} }

func dropVertex(n int) api.Op { return api.Op{Kind: api.RemoveVertex, ID: id(n)} }

func dropEdge(n int) api.Op { return api.Op{Kind: api.RemoveEdge, ID: id(n)} }

// addEdge is from behind a dart of a vertex to behind one of another.
func newEdge(n, from, after, to, behind int) api.Op {
	return api.Op{Kind: api.AddEdge, ID: id(n), A: api.Corner{Vert: id(from), After: dart(after)}, B: api.Corner{Vert: id(to), After: dart(behind)}}
}

func split(edge, vertex, other, n int) api.Op {
	return api.Op{Kind: api.SplitEdge, ID: id(edge), New: id(vertex), Other: id(other), N: n}
}

func smooth(vertex, other int) api.Op {
	return api.Op{Kind: api.SmoothVertex, ID: id(vertex), Other: id(other)}
}

func setLabel(n int, ofEdge bool, s string) api.Op {
	return api.Op{Kind: api.SetLabel, ID: id(n), OfEdge: ofEdge, Text: s}
}

func setAttr(n int, ofEdge bool, x int) api.Op {
	return api.Op{Kind: api.SetAttr, ID: id(n), OfEdge: ofEdge, N: x}
}

// one is a case of One: what comes of it, or an error.
type one struct {
	name string
	s    api.State
	o    api.Op
	want api.State
	err  api.Errno
}

func asks(t *testing.T, cases []one) {
	t.Helper()
	for _, c := range cases {
		if euler.May(c.s.D) != api.OK {
			t.Fatalf("%s: it is asked of a state that may not be: %v", c.name, c.s)
		}
		was := clones(c.s)
		got, err := One(c.s, c.o)
		if err != c.err || !same(got, c.want) {
			t.Errorf("%s: %v, %d, not %v, %d", c.name, got, err, c.want, c.err)
		}
		e := api.Edit{Ops: []api.Op{c.o}}
		if got, err := Apply(c.s, e); err != c.err || !same(got, c.want) {
			t.Errorf("%s: Apply: %v, %d, not %v, %d", c.name, got, err, c.want, c.err)
		}
		tried := c.want
		if c.err != api.OK {
			tried = was
		}
		if got := Try(c.s, e); !same(got, tried) {
			t.Errorf("%s: Try: %v, not %v", c.name, got, tried)
		}
		if !same(c.s, was) {
			t.Errorf("%s: the state changed: %v", c.name, c.s)
		}
	}
}

// P12.1

func TestOfWhatMayNotBe(t *testing.T) {
	s := state(nil, row(1), row(-1))
	for _, o := range []api.Op{
		{},
		{Kind: 9, ID: id(1)},
		{Kind: api.AddVertex, ID: id(0)},
		{Kind: api.AddVertex, ID: id(3), N: 1},
		{Kind: api.RemoveVertex, ID: id(1), Text: "x"},
		newEdge(2, 0, 0, 1, 0),
		split(1, 3, 2, 4),
		setLabel(1, false, "\n"),
		setLabel(1, false, "0123456789abcdefg"),
		setAttr(9, true, api.MaxAttr+1),
	} {
		want := op.May(o)
		if want == api.OK {
			t.Errorf("%v may be", o)
		}
		if got, err := One(s, o); err != want || !same(got, api.State{}) {
			t.Errorf("%v: %v, %d, not %d", o, got, err, want)
		}
	}
}

func TestAddVertex(t *testing.T) {
	behind := func(s api.State, n int) api.State {
		s.D.Verts = append(s.D.Verts, api.Vertex{ID: id(n)})
		return s
	}
	asks(t, []one{
		{"of nothing", Empty(), newVertex(1), state(nil, nil), api.OK},
		{"behind", state(nil, row(1), row(-1)), newVertex(3), state(nil, row(1), row(-1), nil), api.OK},
		{"between", without(state(nil, row(1), nil, row(-1)), 2), newVertex(2), state(nil, row(1), nil, row(-1)), api.OK},
		{"ahead", without(state(nil, nil, row(1), row(-1)), 1), newVertex(1), state(nil, nil, row(1), row(-1)), api.OK},
		{"what is gone stays", state(gone(5, 1), row(1), row(-1)), newVertex(3), state(gone(5, 1), row(1), row(-1), nil), api.OK},
		{"the name of an edge", state(nil, row(9), row(-9)), newVertex(9), behind(state(nil, row(9), row(-9)), 9), api.OK},
		{"one that is there", state(nil, row(1), row(-1)), newVertex(2), api.State{}, api.ErrThere},
		{"the last for which there is room", big(23, 0), newVertex(24), big(24, 0), api.OK},
		{"too many", big(24, 0), newVertex(25), api.State{}, api.ErrBig},
		{"one that is there, of too many", big(24, 0), newVertex(24), api.State{}, api.ErrThere},
	})
	x := api.ID{Site: 2, N: 1}
	got, err := One(state(nil, nil), api.Op{Kind: api.AddVertex, ID: x})
	if err != api.OK || len(got.D.Verts) != 2 || got.D.Verts[1].ID != x || got.D.Verts[1].Label != "" || got.D.Verts[1].Attr != 0 || len(got.D.Verts[1].Ring) != 0 {
		t.Errorf("of another site: %v, %d", got, err)
	}
}

func TestRemoveVertex(t *testing.T) {
	asks(t, []one{
		{"the only one", state(nil, nil), dropVertex(1), api.State{}, api.OK},
		{"between", state(nil, row(1), nil, row(-1)), dropVertex(2), without(state(nil, row(1), nil, row(-1)), 2), api.OK},
		{"what is gone stays", state(gone(5, 1), nil), dropVertex(1), state(gone(5, 1)), api.OK},
		{"one that is not there", state(nil, nil), dropVertex(2), api.State{}, api.ErrGone},
		{"of nothing", Empty(), dropVertex(1), api.State{}, api.ErrGone},
		{"the name of an edge", state(nil, row(9), row(-9)), dropVertex(9), api.State{}, api.ErrGone},
		{"with a dart", state(nil, row(1), row(-1)), dropVertex(2), api.State{}, api.ErrDegree},
		{"with a loop", state(nil, row(1, -1)), dropVertex(1), api.State{}, api.ErrDegree},
	})
}

func TestAddEdge(t *testing.T) {
	three := state(nil, row(1, 2, 3), row(-1), row(-2), row(-3))
	asks(t, []one{
		{"between two alone", state(nil, nil, nil), newEdge(1, 1, 0, 2, 0), state(nil, row(1), row(-1)), api.OK},
		{"to itself", state(nil, nil), newEdge(1, 1, 0, 1, 0), state(nil, row(1, -1)), api.OK},
		{"behind a dart", three, newEdge(4, 1, 2, 2, -1), state(nil, row(1, 2, 4, 3), row(-1, -4), row(-2), row(-3)), api.OK},
		{"behind the last dart", three, newEdge(4, 1, 3, 4, -3), state(nil, row(1, 2, 3, 4), row(-1), row(-2), row(-3, -4)), api.OK},
		{"behind none: behind the first", three, newEdge(4, 1, 0, 2, 0), state(nil, row(1, 4, 2, 3), row(-1, -4), row(-2), row(-3)), api.OK},
		{"behind one of another vertex: behind the first", three, newEdge(4, 1, -2, 3, 2), state(nil, row(1, 4, 2, 3), row(-1), row(-2, -4), row(-3)), api.OK},
		{"behind one that is nowhere: behind the first", three, newEdge(4, 1, 9, 3, -9), state(nil, row(1, 4, 2, 3), row(-1), row(-2, -4), row(-3)), api.OK},
		{"the least name goes to the head of the ring", state(nil, row(2, 3), row(-2), row(-3)), newEdge(1, 1, 3, 2, 0), state(nil, row(2, 3, 1), row(-2, -1), row(-3)), api.OK},
		{"to itself, round nothing", three, newEdge(4, 1, 2, 1, 4), state(nil, row(1, 2, 4, -4, 3), row(-1), row(-2), row(-3)), api.OK},
		{"to itself, round a dart", three, newEdge(4, 1, 2, 1, 3), state(nil, row(1, 2, 4, 3, -4), row(-1), row(-2), row(-3)), api.OK},
		{"to itself, both behind one dart", three, newEdge(4, 1, 2, 1, 2), state(nil, row(1, 2, -4, 4, 3), row(-1), row(-2), row(-3)), api.OK},
		{"to itself, both behind none", three, newEdge(4, 1, 0, 1, 0), state(nil, row(1, -4, 4, 2, 3), row(-1), row(-2), row(-3)), api.OK},
		{"B is behind the dart 0 itself, but at another vertex", three, newEdge(4, 1, 2, 3, 4), state(nil, row(1, 2, 4, 3), row(-1), row(-2, -4), row(-3)), api.OK},
		{"B is behind the dart 1 itself", three, newEdge(4, 1, 2, 1, -4), state(nil, row(1, -4, 2, 4, 3), row(-1), row(-2), row(-3)), api.OK},
		{"A is behind a dart of the edge itself", three, newEdge(4, 1, 4, 2, 0), state(nil, row(1, 4, 2, 3), row(-1, -4), row(-2), row(-3)), api.OK},
		{"behind one that is gone", state(gone(7, 6, 6, 2), row(1, 2, 3), row(-1), row(-2), row(-3)), newEdge(4, 1, 7, 2, 0), state(gone(7, 6, 6, 2), row(1, 2, 4, 3), row(-1, -4), row(-2), row(-3)), api.OK},
		{"B behind one that is gone", state(gone(6, 3), row(1, 2, 3), row(-1), row(-2), row(-3)), newEdge(4, 2, 0, 1, 6), state(gone(6, 3), row(1, 2, 3, -4), row(-1, 4), row(-2), row(-3)), api.OK},
		{"behind one that is gone, and of another vertex now", state(gone(6, -2), row(1, 2, 3), row(-1), row(-2), row(-3)), newEdge(4, 1, 6, 2, 0), state(gone(6, -2), row(1, 4, 2, 3), row(-1, -4), row(-2), row(-3)), api.OK},
		{"it was there once: B behind its dart 0 is behind the new one", state(gone(4, 2, -4, 3), row(1, 2, 3), row(-1), row(-2), row(-3)), newEdge(4, 1, 3, 1, 4), state(gone(4, 2, -4, 3), row(1, 2, 3, 4, -4), row(-1), row(-2), row(-3)), api.OK},
		{"it was there once: A behind its dart 0 is where that was", state(gone(4, 2, -4, 3), row(1, 2, 3), row(-1), row(-2), row(-3)), newEdge(4, 1, 4, 2, 0), state(gone(4, 2, -4, 3), row(1, 2, 4, 3), row(-1, -4), row(-2), row(-3)), api.OK},
		{"it was there once: B behind its dart 1 is where that was", state(gone(4, 2, -4, 3), row(1, 2, 3), row(-1), row(-2), row(-3)), newEdge(4, 2, 0, 1, -4), state(gone(4, 2, -4, 3), row(1, 2, 3, -4), row(-1, 4), row(-2), row(-3)), api.OK},
		{"between two parts", state(nil, row(1, 2), row(-1, -2), row(3, 4), row(-3, -4)), newEdge(5, 1, 2, 3, 4), state(nil, row(1, 2, 5), row(-1, -2), row(3, 4, -5), row(-3, -4)), api.OK},
		{"the name of a vertex", state(nil, nil, nil), newEdge(2, 1, 0, 2, 0), state(nil, row(2), row(-2)), api.OK},
	})
}

func TestAddEdgeThatCannotBe(t *testing.T) {
	two := state(nil, row(1, 2), row(-2, -1))
	many := big(2, 40)
	asks(t, []one{
		{"one that is there", two, newEdge(2, 1, 0, 2, 0), api.State{}, api.ErrThere},
		{"one that is there, from a vertex that is not", two, newEdge(2, 9, 0, 9, 0), api.State{}, api.ErrThere},
		{"too many", many, newEdge(41, 1, 0, 1, 0), api.State{}, api.ErrBig},
		{"one that is there, of too many", many, newEdge(40, 1, 0, 1, 0), api.State{}, api.ErrThere},
		{"too many, from a vertex that is not there", many, newEdge(41, 9, 0, 1, 0), api.State{}, api.ErrBig},
		{"from a vertex that is not there", two, newEdge(3, 3, 0, 1, 0), api.State{}, api.ErrGone},
		{"to a vertex that is not there", two, newEdge(3, 1, 0, 3, 0), api.State{}, api.ErrGone},
		{"to a vertex that is not there, behind the dart 0 itself", two, newEdge(3, 1, 0, 3, 3), api.State{}, api.ErrGone},
		{"of nothing", Empty(), newEdge(1, 1, 0, 1, 0), api.State{}, api.ErrGone},
		{"across a ring", state(nil, row(1, -1, 2), row(-2)), newEdge(3, 1, 1, 2, 0), api.State{}, api.ErrCross},
		{"across a loop", state(nil, row(1, -1)), newEdge(2, 1, 1, 1, -1), api.State{}, api.ErrCross},
		{"within a triangle", state(nil, row(1, -3, 4), row(-1, 2), row(-2, 3), row(-4)), newEdge(5, 4, 0, 2, -1), state(nil, row(1, -3, 4), row(-1, -5, 2), row(-2, 3), row(-4, 5)), api.OK},
		{"across a triangle", state(nil, row(1, -3, 4), row(-1, 2), row(-2, 3), row(-4)), newEdge(5, 4, 0, 2, 2), api.State{}, api.ErrCross},
	})
	full := big(2, 39)
	if got, err := One(full, newEdge(40, 1, 39, 1, 40)); err != api.OK || len(got.D.Edges) != 40 {
		t.Errorf("the last for which there is room: %d edges, %d", len(got.D.Edges), err)
	}
}

func TestRemoveEdge(t *testing.T) {
	asks(t, []one{
		{"the only one", state(nil, row(1), row(-1)), dropEdge(1), state(gone(1, 0, -1, 0), nil, nil), api.OK},
		{"a loop alone", state(nil, row(1, -1)), dropEdge(1), state(gone(1, 0, -1, 0), nil), api.OK},
		{"behind others", state(nil, row(1, 2, 3), row(-1, -3, -2)), dropEdge(2), state(gone(2, 1, -2, -3), row(1, 3), row(-1, -3)), api.OK},
		{"the least: what is ahead is the last of the ring", state(nil, row(1, 2, 3), row(-1, -3, -2)), dropEdge(1), state(gone(1, 3, -1, -2), row(2, 3), row(-2, -3)), api.OK},
		{"a loop behind another dart: of both the one ahead", state(nil, row(1, 2, -2), row(-1)), dropEdge(2), state(gone(2, 1, -2, 1), row(1), row(-1)), api.OK},
		{"a loop the other way round", state(nil, row(1, -2, 2), row(-1)), dropEdge(2), state(gone(2, 1, -2, 1), row(1), row(-1)), api.OK},
		{"a loop round a dart", state(nil, row(1, 2, 3, -2), row(-1), row(-3)), dropEdge(2), state(gone(2, 1, -2, 3), row(1, 3), row(-1), row(-3)), api.OK},
		{"in the stead of what is remembered", state(gone(2, 7, -2, 8), row(1, 2, 3), row(-1, -3, -2)), dropEdge(2), state(gone(2, 1, -2, -3), row(1, 3), row(-1, -3)), api.OK},
		{"with others remembered", state(gone(-1, 9, -2, 8, 4, 0), row(2, 3), row(-3, -2)), dropEdge(3), state(gone(-1, 9, -2, 8, 3, 2, -3, -2, 4, 0), row(2), row(-2)), api.OK},
		{"one that is not there", state(nil, row(1), row(-1)), dropEdge(2), api.State{}, api.ErrGone},
		{"the name of a vertex", state(nil, row(1), row(-1)), dropEdge(2), api.State{}, api.ErrGone},
		{"of nothing", Empty(), dropEdge(1), api.State{}, api.ErrGone},
	})
}

func TestRemoveEdgeWithoutRoom(t *testing.T) {
	full := func(n int) []api.Gone {
		var l []api.Gone
		for i := range n {
			l = append(l, api.Gone{Dart: api.Dart{Edge: id(100 + i)}, To: dart(9)})
		}
		return l
	}
	for _, c := range []struct {
		gone int
		want []api.Gone
	}{
		{398, append(gone(1, 0, -1, 0), full(398)...)},
		{399, append(gone(1, 0), full(399)...)},
		{400, full(400)},
	} {
		got, err := One(state(full(c.gone), row(1), row(-1)), dropEdge(1))
		if err != api.OK || !same(got, state(c.want, nil, nil)) {
			t.Errorf("with %d gone: %d, %d", c.gone, len(got.Gone), err)
		}
	}
}

func TestSplitEdge(t *testing.T) {
	s := state(nil, row(1, 2), row(-2, -1))
	asks(t, []one{
		{"N 0", s, split(1, 3, 4, 0), state(nil, row(1, 2), row(-4, -2), row(-1, 4)), api.OK},
		{"N 1", s, split(1, 3, 4, 1), state(nil, row(-4, 2), row(-2, -1), row(1, 4)), api.OK},
		{"N 2", s, split(1, 3, 4, 2), state(nil, row(1, 2), row(4, -2), row(-1, -4)), api.OK},
		{"N 3", s, split(1, 3, 4, 3), state(nil, row(4, 2), row(-2, -1), row(1, -4)), api.OK},
		{"a loop", state(nil, row(1, -1)), split(1, 2, 3, 0), state(nil, row(1, -3), row(-1, 3)), api.OK},
		{"the new names are those of the other kind", s, split(1, 4, 3, 0), without(state(nil, row(1, 2), row(-3, -2), nil, row(-1, 3)), 3), api.OK},
		{"the lesser name stands ahead", state(nil, row(3), row(-3)), split(3, 3, 1, 0), state(nil, row(3), row(-1), row(1, -3)), api.OK},
		{"what is gone stays", state(gone(9, 1), row(1), row(-1)), split(1, 3, 4, 0), state(gone(9, 1), row(1), row(-4), row(-1, 4)), api.OK},
		{"an edge that is not there", s, split(3, 3, 4, 0), api.State{}, api.ErrGone},
		{"an edge that is not there, names that are", s, split(3, 1, 2, 0), api.State{}, api.ErrGone},
		{"a vertex that is there", s, split(1, 2, 4, 0), api.State{}, api.ErrThere},
		{"an edge that is there", s, split(1, 3, 2, 0), api.State{}, api.ErrThere},
		{"the edge itself", s, split(1, 3, 1, 0), api.State{}, api.ErrThere},
		{"too many vertices", big(24, 3), split(1, 25, 4, 0), api.State{}, api.ErrBig},
		{"too many edges", big(2, 40), split(1, 3, 41, 0), api.State{}, api.ErrBig},
		{"too many vertices, and one that is there", big(24, 3), split(1, 24, 4, 0), api.State{}, api.ErrThere},
		{"too many edges, and one that is there", big(2, 40), split(1, 3, 40, 0), api.State{}, api.ErrThere},
		{"too many, and an edge that is not there", big(24, 3), split(4, 25, 5, 0), api.State{}, api.ErrGone},
	})
}

func TestSplitEdgeSetsNothing(t *testing.T) {
	s := state(nil, row(1), row(-1))
	s.D.Edges[0].Label, s.D.Edges[0].Attr = "e", 5
	want := state(nil, row(1), row(-4), row(-1, 4))
	want.D.Edges[0] = s.D.Edges[0]
	asks(t, []one{{"an edge with a label", s, split(1, 3, 4, 0), want, api.OK}})
}

func TestSmoothVertex(t *testing.T) {
	path := state(nil, row(1), row(-1, 2), row(-2))
	asks(t, []one{
		{"the second goes", path, smooth(2, 2), without(state(gone(2, 0, -2, -1), row(1), nil, row(-1)), 2), api.OK},
		{"the first goes", path, smooth(2, 1), without(state(gone(1, 2, -1, 0), row(2), nil, row(-2)), 2), api.OK},
		{"the other way round", state(nil, row(1), row(-1, -2), row(2)), smooth(2, 2), without(state(gone(2, -1, -2, 0), row(1), nil, row(-1)), 2), api.OK},
		{"both begin there", state(nil, row(-1), row(1, 2), row(-2)), smooth(2, 2), without(state(gone(2, 0, -2, 1), row(-1), nil, row(1)), 2), api.OK},
		{"of two edges side by side a loop comes", state(nil, row(1, 2, 3), row(-2, -1), row(-3)), smooth(2, 2), without(state(gone(2, -1, -2, 0), row(1, -1, 3), nil, row(-3)), 2), api.OK},
		{"the ring is turned", state(nil, row(2), row(-2, 3), row(-3, 1), row(-1)), smooth(2, 3), without(state(gone(3, 0, -3, -2), row(2), nil, row(-2, 1), row(-1)), 2), api.OK},
		{"in the stead of what is remembered", state(gone(2, 7, -2, 8), row(1), row(-1, 2), row(-2)), smooth(2, 2), without(state(gone(2, 0, -2, -1), row(1), nil, row(-1)), 2), api.OK},
		{"a vertex that is not there", path, smooth(4, 1), api.State{}, api.ErrGone},
		{"the name of an edge", state(nil, row(1), row(-1, 9), row(-9)), smooth(9, 1), api.State{}, api.ErrGone},
		{"with one dart", path, smooth(1, 1), api.State{}, api.ErrDegree},
		{"alone", state(nil, nil), smooth(1, 1), api.State{}, api.ErrDegree},
		{"with three darts", state(nil, row(1), row(-1, 2, 3), row(-2), row(-3)), smooth(2, 1), api.State{}, api.ErrDegree},
		{"with four", state(nil, row(1), row(-1, 2, 3, -3), row(-2)), smooth(2, 1), api.State{}, api.ErrDegree},
		{"with a loop", state(nil, row(1, -1)), smooth(1, 1), api.State{}, api.ErrDegree},
		{"with a loop, of another name", state(nil, row(1, -1)), smooth(1, 2), api.State{}, api.ErrDegree},
		{"with none of that name", state(nil, row(1), row(-1, 2), row(-2, 3), row(-3)), smooth(2, 3), api.State{}, api.ErrDegree},
		{"with none of a name that is not there", path, smooth(2, 9), api.State{}, api.ErrDegree},
	})
}

func TestSmoothVertexLeavesWhatIsSet(t *testing.T) {
	s := state(nil, row(1), row(-1, 2), row(-2))
	for i := range s.D.Edges {
		s.D.Edges[i].Label, s.D.Edges[i].Attr = strings.Repeat("e", i+1), i+1
	}
	want := without(state(gone(2, 0, -2, -1), row(1), nil, row(-1)), 2)
	want.D.Edges[0] = s.D.Edges[0]
	asks(t, []one{{"edges with labels", s, smooth(2, 2), want, api.OK}})
}

func TestSet(t *testing.T) {
	s := state(gone(9, 1), row(1), row(-1, 3), row(-3))
	s.D.Verts[1].Label, s.D.Verts[1].Attr = "v", 5
	s.D.Edges[0].Label, s.D.Edges[0].Attr = "e", 6
	with := func(change func(*api.State)) api.State {
		s := clones(s)
		change(&s)
		return s
	}
	asks(t, []one{
		{"a vertex's label", s, setLabel(2, false, "x"), with(func(s *api.State) { s.D.Verts[1].Label = "x" }), api.OK},
		{"the first vertex's label", s, setLabel(1, false, "x"), with(func(s *api.State) { s.D.Verts[0].Label = "x" }), api.OK},
		{"no label", s, setLabel(2, false, ""), with(func(s *api.State) { s.D.Verts[1].Label = "" }), api.OK},
		{"the same label", s, setLabel(2, false, "v"), s, api.OK},
		{"a vertex's attribute", s, setAttr(3, false, -7), with(func(s *api.State) { s.D.Verts[2].Attr = -7 }), api.OK},
		{"the attribute 0", s, setAttr(2, false, 0), with(func(s *api.State) { s.D.Verts[1].Attr = 0 }), api.OK},
		{"an edge's label", s, setLabel(3, true, " ~"), with(func(s *api.State) { s.D.Edges[1].Label = " ~" }), api.OK},
		{"an edge's attribute", s, setAttr(1, true, api.MaxAttr), with(func(s *api.State) { s.D.Edges[0].Attr = api.MaxAttr }), api.OK},
		{"an edge of the name of a vertex", s, setLabel(2, true, "x"), api.State{}, api.ErrGone},
		{"an edge that is not there", s, setAttr(9, true, 1), api.State{}, api.ErrGone},
		{"a vertex that is not there", s, setLabel(4, false, "x"), api.State{}, api.ErrGone},
		{"a vertex that is not there, its attribute", s, setAttr(4, false, 1), api.State{}, api.ErrGone},
		{"of nothing", Empty(), setAttr(1, false, 1), api.State{}, api.ErrGone},
	})
}

// P12.2

func TestApply(t *testing.T) {
	wrong := api.Op{Kind: api.AddVertex, ID: id(1), N: 3}
	cases := []struct {
		name string
		s    api.State
		ops  []api.Op
		want api.State
		err  api.Errno
	}{
		{"the example", Empty(), []api.Op{newVertex(1), dropVertex(1)}, Empty(), api.OK},
		{"one on the other", Empty(), []api.Op{newVertex(1), newVertex(2), newEdge(1, 1, 0, 2, 0), newEdge(2, 1, 1, 2, 0), split(2, 3, 3, 0), setLabel(3, false, "x")}, func() api.State {
			s := state(nil, row(1, 2), row(-1, -3), row(-2, 3))
			s.D.Verts[2].Label = "x"
			return s
		}(), api.OK},
		{"the last can't be done", Empty(), []api.Op{newVertex(1), newVertex(2), newVertex(1)}, api.State{}, api.ErrThere},
		{"the first error is told", state(nil, nil), []api.Op{newVertex(2), dropVertex(3), newVertex(1)}, api.State{}, api.ErrGone},
		{"none", state(nil, nil), nil, api.State{}, api.ErrBig},
		{"too many", Empty(), []api.Op{newVertex(1), newVertex(2), newVertex(3), newVertex(4), newVertex(5), newVertex(6), newVertex(7)}, api.State{}, api.ErrBig},
		{"what may not be is told ahead of what can't be done", state(nil, nil), []api.Op{newVertex(1), wrong}, api.State{}, api.ErrArg},
		{"a label that may not be", state(nil, nil), []api.Op{dropVertex(5), setLabel(1, false, "\n"), wrong}, api.State{}, api.ErrLabel},
		{"across, in the midst", state(nil, row(1, -1)), []api.Op{newEdge(2, 1, 1, 1, -1), dropEdge(1)}, api.State{}, api.ErrCross},
	}
	for _, c := range cases {
		was := clones(c.s)
		e := api.Edit{Ops: c.ops}
		if got, err := Apply(c.s, e); err != c.err || !same(got, c.want) {
			t.Errorf("%s: %v, %d, not %v, %d", c.name, got, err, c.want, c.err)
		}
		tried := c.want
		if c.err != api.OK {
			tried = was
		}
		if got := Try(c.s, e); !same(got, tried) {
			t.Errorf("%s: Try: %v, not %v", c.name, got, tried)
		}
		if !same(c.s, was) {
			t.Errorf("%s: the state changed: %v", c.name, c.s)
		}
	}
}

func TestEmpty(t *testing.T) {
	if s := Empty(); len(s.D.Verts) != 0 || len(s.D.Edges) != 0 || len(s.Gone) != 0 {
		t.Errorf("%v", s)
	}
}

// spoil changes all that a state's lists hold, and writes in the room behind them.
func spoil(s api.State) {
	for i, v := range s.D.Verts {
		clear(v.Ring)
		_ = append(v.Ring, dart(77))
		s.D.Verts[i].Label = "spoilt"
	}
	_ = append(s.D.Verts, api.Vertex{ID: id(77)})
	clear(s.D.Edges)
	_ = append(s.D.Edges, api.Edge{ID: id(77)})
	clear(s.Gone)
	_ = append(s.Gone, gone(77, 77)...)
}

func TestNothingIsShared(t *testing.T) {
	whole := func() api.State {
		s := state(gone(7, 1, 8, 2, 9, 3), row(1, 2), row(-1, -2, 5), row(-5, 6), row(-6), nil)
		// Room behind each list, that is the caller's.
		s.D.Verts, s.D.Edges, s.Gone = s.D.Verts[:4:5], s.D.Edges[:4:4], s.Gone[:3:3]
		return s
	}
	for _, o := range []api.Op{
		newVertex(9), dropVertex(9), newEdge(4, 1, 0, 4, 0), dropEdge(5), split(5, 9, 9, 0), smooth(3, 6),
		setLabel(1, false, "x"), setAttr(1, true, 2), newVertex(1),
	} {
		for name, call := range map[string]func(api.State) api.State{
			"One":   func(s api.State) api.State { out, _ := One(s, o); return out },
			"Apply": func(s api.State) api.State { out, _ := Apply(s, api.Edit{Ops: []api.Op{o}}); return out },
			"Try":   func(s api.State) api.State { return Try(s, api.Edit{Ops: []api.Op{o}}) },
		} {
			s := whole()
			was := clones(s)
			out := call(s)
			answer := clones(out)
			spoil(out)
			if !same(s, was) || s.D.Verts[:5][4].ID != id(5) {
				t.Errorf("%s of %v: the state changed with the answer", name, o)
			}
			out = call(s)
			spoil(s)
			if !same(out, answer) {
				t.Errorf("%s of %v: the answer changed with the state", name, o)
			}
		}
	}
}

// P12.3

// chance is an operation of few names, that may be.
func chance(r *rand.Rand) api.Op {
	name := func() api.ID { return api.ID{Site: 1 + r.Intn(2), N: 1 + r.Intn(14)} }
	corner := func() api.Corner {
		return api.Corner{Vert: name(), After: api.Dart{Edge: name(), Side: r.Intn(2)}}
	}
	kinds := []int{1, 2, 3, 3, 3, 3, 3, 3, 4, 5, 6, 7, 8}
	o := api.Op{Kind: kinds[r.Intn(len(kinds))], ID: name()}
	switch o.Kind {
	case api.AddEdge:
		o.A, o.B = corner(), corner()
		if r.Intn(4) == 0 {
			o.A.After = api.Dart{}
		}
		if r.Intn(4) == 0 {
			o.B = api.Corner{Vert: o.A.Vert, After: api.Dart{Edge: o.ID}}
		}
	case api.SplitEdge:
		o.New, o.Other, o.N = name(), name(), r.Intn(4)
	case api.SmoothVertex:
		o.Other = name()
	case api.SetLabel:
		o.OfEdge, o.Text = r.Intn(2) == 0, strings.Repeat("x", r.Intn(3))
	case api.SetAttr:
		o.OfEdge, o.N = r.Intn(2) == 0, r.Intn(5)-2
	}
	return o
}

func TestWhatComesMayBe(t *testing.T) {
	r := rand.New(rand.NewSource(13))
	told := map[int]map[api.Errno]int{}
	for range 30 {
		s := Empty()
		for range 600 {
			o := chance(r)
			if r.Intn(3) == 0 {
				o = api.Op{Kind: api.AddVertex, ID: o.ID}
			}
			was := clones(s)
			next, err := One(s, o)
			if told[o.Kind] == nil {
				told[o.Kind] = map[api.Errno]int{}
			}
			told[o.Kind][err]++
			if !same(s, was) {
				t.Fatalf("%v changed %v to %v", o, was, s)
			}
			if err != api.OK {
				if !same(next, api.State{}) {
					t.Fatalf("%v of %v: %d, and %v", o, s, err, next)
				}
				continue
			}
			if err := euler.May(next.D); err != api.OK {
				t.Fatalf("%v of %v is %v: %d", o, s, next, err)
			}
			if len(next.Gone) > api.MaxGone || !slices.IsSortedFunc(next.Gone, func(a, b api.Gone) int { return ident.OrderDart(a.Dart, b.Dart) }) {
				t.Fatalf("%v of %v: what is gone does not rise: %v", o, s, next.Gone)
			}
			s = next
		}
	}
	for kind, errs := range map[int][]api.Errno{
		api.AddVertex:    {api.OK, api.ErrThere, api.ErrBig},
		api.RemoveVertex: {api.OK, api.ErrGone, api.ErrDegree},
		api.AddEdge:      {api.OK, api.ErrThere, api.ErrGone, api.ErrCross},
		api.RemoveEdge:   {api.OK, api.ErrGone},
		api.SplitEdge:    {api.OK, api.ErrGone, api.ErrThere},
		api.SmoothVertex: {api.OK, api.ErrGone, api.ErrDegree},
		api.SetLabel:     {api.OK, api.ErrGone},
		api.SetAttr:      {api.OK, api.ErrGone},
	} {
		for _, err := range errs {
			if told[kind][err] == 0 {
				t.Errorf("of kind %d %d was never told: %v", kind, err, told[kind])
			}
		}
	}
}

// It is asked of states that may be; of others nothing is promised but an end.
func TestEnds(t *testing.T) {
	r := rand.New(rand.NewSource(14))
	for range 300 {
		var s api.State
		for range r.Intn(5) {
			var l []api.Dart
			for range r.Intn(5) {
				l = append(l, dart(r.Intn(9)-4))
			}
			s.D.Verts = append(s.D.Verts, api.Vertex{ID: id(r.Intn(5)), Ring: l})
		}
		for range r.Intn(5) {
			s.D.Edges = append(s.D.Edges, api.Edge{ID: id(r.Intn(5))})
		}
		for range r.Intn(5) {
			s.Gone = append(s.Gone, gone(r.Intn(9)-4, r.Intn(9)-4)...)
		}
		for range 40 {
			o := chance(r)
			o.ID = id(1 + r.Intn(4))
			One(s, o)
			Try(s, api.Edit{Ops: []api.Op{o, chance(r)}})
		}
	}
}
