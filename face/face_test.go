package face

import (
	"math/rand"
	"slices"
	"testing"

	"tracery/api"
	"tracery/diagram"
	"tracery/ident"
)

func id(n int) api.ID { return api.ID{Site: 1, N: n} }

// dart is side 0 of an edge, or side 1, if n is below 0.
func dart(n int) api.Dart {
	if n < 0 {
		return api.Dart{Edge: id(-n), Side: 1}
	}
	return api.Dart{Edge: id(n)}
}

func row(ns ...int) []api.Dart {
	var l []api.Dart
	for _, n := range ns {
		l = append(l, dart(n))
	}
	return l
}

// drawn has a vertex of each ring, and the edges of their darts.
func drawn(rings ...[]api.Dart) api.Diagram {
	var d api.Diagram
	edges := 0
	for i, r := range rings {
		d.Verts = append(d.Verts, api.Vertex{ID: id(i + 1), Ring: r})
		for _, x := range r {
			edges = max(edges, x.Edge.N)
		}
	}
	for n := range edges {
		d.Edges = append(d.Edges, api.Edge{ID: id(n + 1)})
	}
	return d
}

// drawings are diagrams and their faces.
func drawings() []struct {
	name  string
	d     api.Diagram
	faces [][]api.Dart
} {
	return []struct {
		name  string
		d     api.Diagram
		faces [][]api.Dart
	}{
		{"nothing", drawn(), nil},
		{"vertices alone", drawn(nil, nil), nil},
		{"two vertices, an edge", drawn(row(1), row(-1)), [][]api.Dart{row(1, -1)}},
		{"a loop", drawn(row(1, -1)), [][]api.Dart{row(1), row(-1)}},
		{"a row of three", drawn(row(1), row(-1, 2), row(-2)), [][]api.Dart{row(1, 2, -2, -1)}},
		{"a triangle", drawn(row(1, -3), row(-1, 2), row(-2, 3)), [][]api.Dart{row(1, 2, 3), row(-1, -3, -2)}},
		{"two edges side by side", drawn(row(1, 2), row(-1, -2)), [][]api.Dart{row(1, -2), row(-1, 2)}},
		{"a star", drawn(row(1, 2, 3), row(-1), row(-2), row(-3)), [][]api.Dart{row(1, -1, 2, -2, 3, -3)}},
		{"a star turned round", drawn(row(1, 3, 2), row(-1), row(-2), row(-3)), [][]api.Dart{row(1, -1, 3, -3, 2, -2)}},
		{"two loops side by side", drawn(row(1, -1, 2, -2)), [][]api.Dart{row(1, 2), row(-1), row(-2)}},
		{"two loops that cross", drawn(row(1, 2, -1, -2)), [][]api.Dart{row(1, -2, -1, 2)}},
		{"two parts", drawn(row(1), nil, row(-1), row(2, -2)), [][]api.Dart{row(1, -1), row(2), row(-2)}},
	}
}

// drawing is a diagram of some rings round which darts stand in any order: well formed, in the plane or not.
func drawing(chance *rand.Rand) api.Diagram {
	rings := make([][]api.Dart, 1+chance.Intn(8))
	for n := range chance.Intn(12) {
		for _, x := range row(n+1, -n-1) {
			i := chance.Intn(len(rings))
			at := chance.Intn(len(rings[i]) + 1)
			if len(rings[i]) > 0 && ident.OrderDart(rings[i][0], x) < 0 {
				at = max(at, 1)
			} else {
				at = 0
			}
			rings[i] = slices.Insert(rings[i], at, x)
		}
	}
	return drawn(rings...)
}

func each(t *testing.T, ask func(api.Diagram)) {
	t.Helper()
	chance := rand.New(rand.NewSource(5))
	for range 300 {
		d := drawing(chance)
		if err := diagram.Form(d); err != api.OK {
			t.Fatalf("%v is not well formed: %d", d, err)
		}
		ask(d)
	}
}

func same(t *testing.T, what string, got, want []api.Dart) {
	t.Helper()
	if !slices.Equal(got, want) {
		t.Errorf("%s: %v, not %v", what, got, want)
	}
}

// P5.1

func TestDarts(t *testing.T) {
	for _, c := range drawings() {
		var want []api.Dart
		for n := range c.d.Edges {
			want = append(want, row(n+1, -n-1)...)
		}
		same(t, c.name, Darts(c.d), want)
	}
	d := drawn(row(2), row(-2, 3), row(-1, -3), row(1))
	same(t, "rings that do not rise", Darts(d), row(1, -1, 2, -2, 3, -3))
	clear(Darts(d))
	if !diagram.Same(d, drawn(row(2), row(-2, 3), row(-1, -3), row(1))) {
		t.Error("the diagram changed with the answer")
	}
}

func TestSigma(t *testing.T) {
	each(t, func(d api.Diagram) {
		for _, v := range d.Verts {
			for i, x := range v.Ring {
				want := v.Ring[0]
				if i+1 < len(v.Ring) {
					want = v.Ring[i+1]
				}
				if got, ok := Sigma(d, x); got != want || !ok {
					t.Errorf("Sigma of %v is %v, %v, not %v", x, got, ok, want)
				}
				if got, ok := Phi(d, ident.Other(x)); got != want || !ok {
					t.Errorf("Phi of %v is %v, %v, not %v", ident.Other(x), got, ok, want)
				}
			}
		}
	})
}

func TestSigmaOfNone(t *testing.T) {
	d := drawn(row(1, 2), row(-1, -2))
	for _, x := range []api.Dart{{}, dart(3), dart(-3), {Edge: id(1), Side: 2}, {Edge: id(1), Side: -1}, {Edge: api.ID{Site: 2, N: 1}}} {
		if got, ok := Sigma(d, x); got != (api.Dart{}) || ok {
			t.Errorf("Sigma of %v is %v, %v", x, got, ok)
		}
		if got, ok := Phi(d, x); got != (api.Dart{}) || ok {
			t.Errorf("Phi of %v is %v, %v", x, got, ok)
		}
		if got, ok := Sigma(api.Diagram{}, x); got != (api.Dart{}) || ok {
			t.Errorf("Sigma of %v in nothing is %v, %v", x, got, ok)
		}
	}
}

// P5.2

func TestFaces(t *testing.T) {
	for _, c := range drawings() {
		got := Faces(c.d)
		if len(got) != len(c.faces) {
			t.Errorf("%s: %v, not %v", c.name, got, c.faces)
			continue
		}
		for i, want := range c.faces {
			same(t, c.name, got[i], want)
		}
	}
}

func TestTrace(t *testing.T) {
	for _, c := range drawings() {
		for _, f := range c.faces {
			for i, x := range f {
				same(t, c.name, Trace(c.d, x), append(slices.Clone(f[i:]), f[:i]...))
			}
		}
		for _, x := range []api.Dart{{}, dart(4), {Edge: id(1), Side: 2}} {
			if got := Trace(c.d, x); len(got) != 0 {
				t.Errorf("%s: Trace of %v, which is not there, is %v", c.name, x, got)
			}
		}
	}
}

// Round each face by Phi, with nothing of Trace.
func TestFacesByPhi(t *testing.T) {
	each(t, func(d api.Diagram) {
		var told []api.Dart
		faces := Faces(d)
		for _, x := range Darts(d) {
			if slices.Contains(told, x) {
				continue
			}
			want := []api.Dart{x}
			for y, _ := Phi(d, x); y != x; y, _ = Phi(d, y) {
				want = append(want, y)
			}
			told = append(told, want...)
			if len(faces) == 0 {
				t.Fatalf("the face of %v is not told", x)
			}
			same(t, "a face", faces[0], want)
			same(t, "a trace", Trace(d, x), want)
			faces = faces[1:]
		}
		if len(faces) != 0 {
			t.Errorf("faces too many: %v", faces)
		}
	})
}

func TestFacesAreTheCallersOwn(t *testing.T) {
	d := drawn(row(1, -3), row(-1, 2), row(-2, 3))
	faces := Faces(d)
	_ = append(faces[0], dart(9))
	clear(faces[0])
	same(t, "another face", faces[1], row(-1, -3, -2))
	clear(Trace(d, dart(1)))
	if !diagram.Same(d, drawn(row(1, -3), row(-1, 2), row(-2, 3))) {
		t.Error("the diagram changed with the answer")
	}
}

func TestShare(t *testing.T) {
	for _, c := range drawings() {
		for i, f := range c.faces {
			for j, g := range c.faces {
				for _, x := range f {
					for _, y := range g {
						if got := Share(c.d, x, y); got != (i == j) {
							t.Errorf("%s: %v and %v: %v", c.name, x, y, got)
						}
					}
				}
			}
		}
	}
	d := drawn(row(1), row(-1))
	for _, x := range []api.Dart{{}, dart(2), {Edge: id(1), Side: 2}} {
		if Share(d, x, dart(1)) || Share(d, dart(1), x) || Share(d, x, x) {
			t.Errorf("%v, which is not there, is in a face", x)
		}
	}
}

// P5.3

func TestEachDartInOneFace(t *testing.T) {
	each(t, func(d api.Diagram) {
		all := slices.Concat(Faces(d)...)
		slices.SortFunc(all, ident.OrderDart)
		same(t, "the darts of all faces", all, Darts(d))
	})
}

func TestOneToOne(t *testing.T) {
	each(t, func(d api.Diagram) {
		var sigmas, phis []api.Dart
		for _, x := range Darts(d) {
			s, _ := Sigma(d, x)
			p, _ := Phi(d, x)
			sigmas, phis = append(sigmas, s), append(phis, p)
		}
		slices.SortFunc(sigmas, ident.OrderDart)
		slices.SortFunc(phis, ident.OrderDart)
		same(t, "Sigma of all", sigmas, Darts(d))
		same(t, "Phi of all", phis, Darts(d))
	})
}

// It is asked of diagrams that are well formed; of others nothing is promised but an end.
func TestEnds(t *testing.T) {
	for _, d := range []api.Diagram{
		drawn(row(1)),
		drawn(row(1, 1)),
		drawn(row(1, 2), row(-1, 1), row(-2, 1)),
		drawn(row(1, 2, 1, -1), row(-2, -2, 2)),
		{Verts: []api.Vertex{{Ring: []api.Dart{{Side: 7}, {Side: -6}, {}, {}}}}},
	} {
		for _, x := range append(Darts(d), dart(1), dart(-2)) {
			Trace(d, x)
			Share(d, x, dart(9))
			Phi(d, x)
		}
		Faces(d)
	}
}
