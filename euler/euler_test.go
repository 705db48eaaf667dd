package euler

import (
	"math/rand"
	"slices"
	"testing"

	"tracery/api"
	"tracery/diagram"
	"tracery/ring"
)

func id(n int) api.ID { return api.ID{Site: 1, N: n} }

// dart is side 0 of an edge, or side 1, if n is below 0.
func dart(n int) api.Dart {
	if n < 0 {
		return api.Dart{Edge: id(-n), Side: 1}
	}
	return api.Dart{Edge: id(n)}
}

func row(ns ...int) []api.Dart {
	var l []api.Dart
	for _, n := range ns {
		l = append(l, dart(n))
	}
	return l
}

// drawn has a vertex of each ring, and the edges of their darts.
func drawn(rings ...[]api.Dart) api.Diagram {
	var d api.Diagram
	edges := 0
	for i, r := range rings {
		d.Verts = append(d.Verts, api.Vertex{ID: id(i + 1), Ring: ring.Turn(r)})
		for _, x := range r {
			edges = max(edges, x.Edge.N)
		}
	}
	for n := range edges {
		d.Edges = append(d.Edges, api.Edge{ID: id(n + 1)})
	}
	return d
}

// drawings are diagrams, their counts and their genus.
func drawings() []struct {
	name          string
	d             api.Diagram
	v, e, f, c, g int
} {
	return []struct {
		name          string
		d             api.Diagram
		v, e, f, c, g int
	}{
		{"nothing", drawn(), 0, 0, 0, 0, 0},
		{"a vertex", drawn(nil), 1, 0, 1, 1, 0},
		{"three vertices", drawn(nil, nil, nil), 3, 0, 3, 3, 0},
		{"an edge", drawn(row(1), row(-1)), 2, 1, 1, 1, 0},
		{"an edge, a vertex alone", drawn(row(1), nil, row(-1)), 3, 1, 2, 2, 0},
		{"a loop", drawn(row(1, -1)), 1, 1, 2, 1, 0},
		{"two loops side by side", drawn(row(1, -1, 2, -2)), 1, 2, 3, 1, 0},
		{"a loop in a loop", drawn(row(1, 2, -2, -1)), 1, 2, 3, 1, 0},
		{"two loops that cross", drawn(row(1, 2, -1, -2)), 1, 2, 1, 1, 1},
		{"two loops that cross, elsewhere the same", drawn(row(1, 2, -1, -2), nil, row(3, 4, -3, -4)), 3, 4, 3, 3, 2},
		{"four loops that cross by two", drawn(row(1, 2, -1, -2, 3, 4, -3, -4)), 1, 4, 1, 1, 2},
		{"a triangle", drawn(row(1, -3), row(-1, 2), row(-2, 3)), 3, 3, 2, 1, 0},
		{"three edges side by side", drawn(row(1, 2, 3), row(-3, -2, -1)), 2, 3, 3, 1, 0},
		{"three edges side by side, of which some cross", drawn(row(1, 2, 3), row(-1, -2, -3)), 2, 3, 1, 1, 1},
		{"four vertices, each with each", drawn(row(1, 3, 2), row(-1, 4, -6), row(-2, 5, -4), row(-3, 6, -5)), 4, 6, 4, 1, 0},
		{"the same, one ring turned round", drawn(row(1, 2, 3), row(-1, 4, -6), row(-2, 5, -4), row(-3, 6, -5)), 4, 6, 2, 1, 1},
		{"two parts", drawn(row(1, -1), row(2), row(-2)), 3, 2, 3, 2, 0},
	}
}

// P7.1

func TestCount(t *testing.T) {
	for _, c := range drawings() {
		v, e, f, p := Count(c.d)
		if v != c.v || e != c.e || f != c.f || p != c.c {
			t.Errorf("%s: %d, %d, %d, %d, not %d, %d, %d, %d", c.name, v, e, f, p, c.v, c.e, c.f, c.c)
		}
	}
}

func TestGenus(t *testing.T) {
	for _, c := range drawings() {
		if got := Genus(c.d); got != c.g {
			t.Errorf("%s: %d, not %d", c.name, got, c.g)
		}
		if got := Planar(c.d); got != (c.g == 0) {
			t.Errorf("%s: %v", c.name, got)
		}
	}
}

// chance is a diagram of some rings round which darts stand in any order.
func chance(r *rand.Rand) api.Diagram {
	rings := make([][]api.Dart, 1+r.Intn(8))
	for n := range r.Intn(14) {
		for _, x := range row(n+1, -n-1) {
			i := r.Intn(len(rings))
			rings[i] = slices.Insert(rings[i], r.Intn(len(rings[i])+1), x)
		}
	}
	return drawn(rings...)
}

func TestGenusOfAny(t *testing.T) {
	r := rand.New(rand.NewSource(7))
	seen := map[int]bool{}
	for range 500 {
		d := chance(r)
		v, e, f, c := Count(d)
		g := Genus(d)
		seen[min(g, 2)] = true
		if g < 0 || v-e+f != 2*c-2*g {
			t.Errorf("%v: %d, %d, %d, %d, genus %d", d, v, e, f, c, g)
		}
		if Planar(d) != (g == 0) {
			t.Errorf("%v: genus %d, planar %v", d, g, Planar(d))
		}
	}
	if len(seen) != 3 {
		t.Errorf("not of all kinds: %v", seen)
	}
}

// P7.2

func TestMay(t *testing.T) {
	for _, c := range drawings() {
		want := api.OK
		if c.g > 0 {
			want = api.ErrGenus
		}
		if got := May(c.d); got != want {
			t.Errorf("%s: %d, not %d", c.name, got, want)
		}
	}
}

func TestMayTellsWhatIsNotWellFormed(t *testing.T) {
	crossed := func(change func(*api.Diagram)) api.Diagram {
		d := drawn(row(1, 2, -1, -2))
		change(&d)
		return d
	}
	cases := []struct {
		d    api.Diagram
		want api.Errno
	}{
		{crossed(func(d *api.Diagram) { d.Verts[0].Attr = api.MaxAttr + 1 }), api.ErrArg},
		{crossed(func(d *api.Diagram) { d.Edges[1].Label = "\n" }), api.ErrLabel},
		{crossed(func(d *api.Diagram) { d.Verts[0].ID = api.ID{} }), api.ErrForm},
		{crossed(func(d *api.Diagram) { d.Edges = d.Edges[:1] }), api.ErrForm},
		{crossed(func(d *api.Diagram) { d.Verts = make([]api.Vertex, 25) }), api.ErrBig},
		{crossed(func(d *api.Diagram) { d.Edges = make([]api.Edge, 41) }), api.ErrBig},
		{drawn(row(1)), api.ErrForm},
		{drawn(row(1, 2), row(-1)), api.ErrForm},
	}
	for i, c := range cases {
		if got := May(c.d); got != c.want {
			t.Errorf("case %d: %d, not %d", i, got, c.want)
		}
	}
}

// P7.3

// Of edges that make no ring, in whatever order they stand round their vertices.
func TestWithoutRingsItIsPlanar(t *testing.T) {
	r := rand.New(rand.NewSource(8))
	for range 300 {
		rings := make([][]api.Dart, 1+r.Intn(api.MaxVerts))
		n := 0
		for i := range rings {
			if i == 0 || r.Intn(5) == 0 {
				continue // a new part begins
			}
			n++
			j := r.Intn(i)
			rings[i] = slices.Insert(rings[i], r.Intn(len(rings[i])+1), dart(n))
			rings[j] = slices.Insert(rings[j], r.Intn(len(rings[j])+1), dart(-n))
		}
		d := drawn(rings...)
		if May(d) != api.OK || Genus(d) != 0 {
			t.Errorf("%v: %d, genus %d", d, May(d), Genus(d))
		}
	}
}

// without is d without an edge.
func without(d api.Diagram, n int) api.Diagram {
	d = diagram.Clone(d)
	d.Edges = slices.DeleteFunc(d.Edges, func(e api.Edge) bool { return e.ID == id(n) })
	for i, v := range d.Verts {
		d.Verts[i].Ring = ring.Remove(ring.Remove(v.Ring, dart(n)), dart(-n))
	}
	return d
}

func TestWhatIsTakenAwayLeavesItPlanar(t *testing.T) {
	r := rand.New(rand.NewSource(9))
	taken := 0
	for range 2000 {
		d := chance(r)
		if !Planar(d) {
			continue
		}
		for _, n := range r.Perm(len(d.Edges)) {
			d = without(d, n+1)
			taken++
			if err := May(d); err != api.OK {
				t.Fatalf("%v without %d: %d", d, n+1, err)
			}
		}
	}
	if taken < 1000 {
		t.Errorf("only %d were taken away", taken)
	}
}

func TestNothingIsChanged(t *testing.T) {
	for _, c := range drawings() {
		was := diagram.Clone(c.d)
		Count(c.d)
		May(c.d)
		if !diagram.Same(c.d, was) {
			t.Errorf("%s changed", c.name)
		}
	}
}
