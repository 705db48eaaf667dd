package comp

import (
	"math/rand"
	"slices"
	"testing"

	"tracery/api"
	"tracery/diagram"
	"tracery/ident"
)

// name is that of the i-th vertex, from 0 on: names rise, but are not places.
func name(i int) api.ID { return api.ID{Site: 1 + i/10, N: 5 + i} }

type edge struct{ from, to int }

// drawn has so many vertices, and edges between their places.
func drawn(verts int, edges ...edge) api.Diagram {
	var d api.Diagram
	for i := range verts {
		d.Verts = append(d.Verts, api.Vertex{ID: name(i)})
	}
	for n, e := range edges {
		x := api.ID{Site: 1, N: n + 1}
		d.Edges = append(d.Edges, api.Edge{ID: x})
		d.Verts[e.from].Ring = append(d.Verts[e.from].Ring, api.Dart{Edge: x})
		d.Verts[e.to].Ring = append(d.Verts[e.to].Ring, api.Dart{Edge: x, Side: 1})
	}
	return d
}

func chance(t *testing.T, ask func(verts int, edges []edge)) {
	t.Helper()
	r := rand.New(rand.NewSource(6))
	for range 300 {
		verts := 1 + r.Intn(api.MaxVerts)
		var edges []edge
		for range r.Intn(api.MaxEdges / (1 + r.Intn(4))) {
			edges = append(edges, edge{r.Intn(verts), r.Intn(verts)})
		}
		if d := drawn(verts, edges...); diagram.Form(d) != api.OK {
			t.Fatalf("%v is not well formed", d)
		}
		ask(verts, edges)
	}
}

// reached are the places that hang together with one, found by going along edges again and again.
func reached(verts int, edges []edge, from int) []int {
	in := make([]bool, verts)
	in[from] = true
	for range verts {
		for _, e := range edges {
			if in[e.from] || in[e.to] {
				in[e.from], in[e.to] = true, true
			}
		}
	}
	var l []int
	for i, ok := range in {
		if ok {
			l = append(l, i)
		}
	}
	return l
}

// P6.1

func TestLabels(t *testing.T) {
	cases := []struct {
		d    api.Diagram
		want []int
	}{
		{drawn(0), nil},
		{drawn(1), []int{0}},
		{drawn(1, edge{0, 0}), []int{0}},
		{drawn(3), []int{0, 1, 2}},
		{drawn(3, edge{0, 1}), []int{0, 0, 2}},
		{drawn(3, edge{2, 1}), []int{0, 1, 1}},
		{drawn(3, edge{2, 0}), []int{0, 1, 0}},
		{drawn(3, edge{2, 2}, edge{0, 0}), []int{0, 1, 2}},
		{drawn(4, edge{3, 2}, edge{2, 1}), []int{0, 1, 1, 1}},
		{drawn(5, edge{4, 3}, edge{2, 1}, edge{1, 4}), []int{0, 1, 1, 1, 1}},
		{drawn(6, edge{0, 5}, edge{1, 4}, edge{2, 3}), []int{0, 1, 2, 2, 1, 0}},
		{drawn(6, edge{0, 5}, edge{1, 4}, edge{2, 3}, edge{4, 3}, edge{5, 1}), []int{0, 0, 0, 0, 0, 0}},
		{drawn(3, edge{0, 1}, edge{1, 0}, edge{0, 1}), []int{0, 0, 2}},
	}
	for _, c := range cases {
		if got := Labels(c.d); !slices.Equal(got, c.want) {
			t.Errorf("%v: %v, not %v", c.d, got, c.want)
		}
	}
}

func TestCount(t *testing.T) {
	cases := []struct {
		d    api.Diagram
		want int
	}{
		{drawn(0), 0},
		{drawn(1), 1},
		{drawn(1, edge{0, 0}), 1},
		{drawn(3, edge{0, 1}), 2},
		{drawn(3, edge{1, 2}), 2},
		{drawn(3, edge{0, 1}, edge{0, 1}), 2},
		{drawn(24), 24},
		{drawn(6, edge{0, 5}, edge{1, 4}, edge{2, 3}, edge{4, 3}, edge{5, 1}), 1},
	}
	for _, c := range cases {
		if got := Count(c.d); got != c.want {
			t.Errorf("%v: %d, not %d", c.d, got, c.want)
		}
	}
}

func TestAgainstGoingAlong(t *testing.T) {
	chance(t, func(verts int, edges []edge) {
		d := drawn(verts, edges...)
		labels, parts := Labels(d), Parts(d)
		if len(labels) != verts || len(parts) != Count(d) {
			t.Fatalf("%d labels of %d vertices, %d of %d parts", len(labels), verts, len(parts), Count(d))
		}
		for i := range verts {
			with := reached(verts, edges, i)
			if labels[i] != with[0] {
				t.Errorf("label %d is %d, not %d", i, labels[i], with[0])
			}
			for j := range verts {
				if got := Together(d, name(i), name(j)); got != slices.Contains(with, j) {
					t.Errorf("%d and %d: %v", i, j, got)
				}
			}
			if with[0] != i {
				continue
			}
			var names []api.ID
			for _, j := range with {
				names = append(names, name(j))
			}
			if len(parts) == 0 || !slices.Equal(parts[0], names) {
				t.Fatalf("the part of %d is not %v: %v", i, names, parts)
			}
			parts = parts[1:]
		}
		if len(parts) != 0 {
			t.Errorf("parts too many: %v", parts)
		}
	})
}

func TestTogether(t *testing.T) {
	d := drawn(4, edge{0, 2}, edge{1, 3})
	for i := range 4 {
		for j := range 4 {
			if got := Together(d, name(i), name(j)); got != (i%2 == j%2) {
				t.Errorf("%d and %d: %v", i, j, got)
			}
		}
	}
	none := []api.ID{{}, {Site: 1, N: 1}, {Site: 1, N: 2}, {Site: 9, N: 9}}
	for _, x := range none {
		for _, y := range append(none, name(0)) {
			if Together(d, x, y) || Together(d, y, x) || Together(api.Diagram{}, x, y) {
				t.Errorf("%v and %v hang together", x, y)
			}
		}
	}
}

func TestPartsAreTheCallersOwn(t *testing.T) {
	d := drawn(4, edge{0, 2}, edge{1, 3})
	parts := Parts(d)
	_ = append(parts[0], name(9))
	clear(parts[0])
	if !slices.Equal(parts[1], []api.ID{name(1), name(3)}) {
		t.Errorf("another part changed: %v", parts[1])
	}
	clear(Labels(d))
	if !diagram.Same(d, drawn(4, edge{0, 2}, edge{1, 3})) {
		t.Error("the diagram changed with the answer")
	}
	if len(Parts(drawn(0))) != 0 {
		t.Error("parts of nothing")
	}
}

// P6.2

func TestWithAnEdgeMore(t *testing.T) {
	chance(t, func(verts int, edges []edge) {
		count := verts
		for n := range edges {
			apart := !Together(drawn(verts, edges[:n]...), name(edges[n].from), name(edges[n].to))
			if apart {
				count--
			}
			if got := Count(drawn(verts, edges[:n+1]...)); got != count {
				t.Errorf("%d vertices, %v: %d parts, not %d", verts, edges[:n+1], got, count)
			}
		}
	})
}

func TestPartsRise(t *testing.T) {
	chance(t, func(verts int, edges []edge) {
		var firsts []api.ID
		for _, p := range Parts(drawn(verts, edges...)) {
			if !slices.IsSortedFunc(p, ident.Order) {
				t.Errorf("%v does not rise", p)
			}
			firsts = append(firsts, p[0])
		}
		if !slices.IsSortedFunc(firsts, ident.Order) {
			t.Errorf("%v do not rise", firsts)
		}
	})
}
