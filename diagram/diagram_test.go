package diagram

import (
	"math"
	"slices"
	"strings"
	"testing"

	"tracery/api"
	"tracery/ident"
)

func id(site, n int) api.ID { return api.ID{Site: site, N: n} }

func dart(site, n, side int) api.Dart { return api.Dart{Edge: id(site, n), Side: side} }

// triangle has three vertices, the edges 1 to 3 round them, a loop 4 at the third, and a vertex alone.
func triangle() api.Diagram {
	return api.Diagram{
		Verts: []api.Vertex{
			{ID: id(1, 1), Ring: []api.Dart{dart(1, 1, 0), dart(1, 3, 1)}, Label: "one", Attr: 1},
			{ID: id(1, 2), Ring: []api.Dart{dart(1, 1, 1), dart(1, 2, 0)}, Label: " ~", Attr: -api.MaxAttr},
			{ID: id(2, 1), Ring: []api.Dart{dart(1, 2, 1), dart(8, api.MaxCount, 1), dart(8, api.MaxCount, 0), dart(1, 3, 0)}},
			{ID: id(8, api.MaxCount), Attr: api.MaxAttr},
		},
		Edges: []api.Edge{
			{ID: id(1, 1), Label: "0123456789abcdef", Attr: api.MaxAttr},
			{ID: id(1, 2), Attr: -api.MaxAttr},
			{ID: id(1, 3), Label: "x"},
			{ID: id(8, api.MaxCount)},
		},
	}
}

// rows has as many vertices, in a row, and as many edges, all from the first to the second.
func rows(verts, edges int) api.Diagram {
	var d api.Diagram
	for n := range verts {
		d.Verts = append(d.Verts, api.Vertex{ID: id(1, n+1)})
	}
	for n := range edges {
		d.Edges = append(d.Edges, api.Edge{ID: id(2, n+1)})
		d.Verts[0].Ring = append(d.Verts[0].Ring, dart(2, n+1, 0))
		d.Verts[1].Ring = append(d.Verts[1].Ring, dart(2, n+1, 1))
	}
	return d
}

// P4.1

func TestMayLabel(t *testing.T) {
	for _, s := range []string{"", " ", "~", "a b", "0123456789abcdef", strings.Repeat(" ", 16)} {
		if !MayLabel(s) {
			t.Errorf("%q may not be", s)
		}
	}
	for _, s := range []string{"0123456789abcdefg", strings.Repeat("~", 17), strings.Repeat("x", 1<<16), "\x1f", "\x7f", "\n", "a\tb", "abc\x00", "\x80", "\xff", "é", "日本", "�", "\u007f", strings.Repeat("é", 9)} {
		if MayLabel(s) {
			t.Errorf("%q may be", s)
		}
	}
	for b := range 256 {
		want := b >= 0x20 && b <= 0x7e
		for _, s := range []string{string([]byte{byte(b)}), string([]byte{'a', byte(b)}), string([]byte{byte(b), 'a'})} {
			if MayLabel(s) != want {
				t.Errorf("%q: %v", s, !want)
			}
		}
	}
}

func TestMayAttr(t *testing.T) {
	for n, want := range map[int]bool{0: true, 1: true, -1: true, 1 << 40: true, 1<<40 + 1: false, -1 << 40: true, -1<<40 - 1: false, math.MaxInt: false, math.MinInt: false, 1<<40 - 1: true} {
		if MayAttr(n) != want {
			t.Errorf("%d: %v", n, !want)
		}
	}
}

// P4.2

func TestFormOfWhatIs(t *testing.T) {
	loop := []api.Dart{dart(1, 1, 0), dart(1, 1, 1)}
	for i, d := range []api.Diagram{
		{},
		{Verts: []api.Vertex{}, Edges: []api.Edge{}},
		{Verts: []api.Vertex{{ID: id(1, 1), Ring: loop}}, Edges: []api.Edge{{ID: id(1, 1)}}},
		{Verts: []api.Vertex{{ID: id(1, 9)}, {ID: id(2, 1)}}},
		triangle(),
		rows(24, 40),
		rows(2, 40),
		rows(24, 0),
	} {
		if got := Form(d); got != api.OK {
			t.Errorf("diagram %d: %d", i, got)
		}
	}
}

// faults are changes of the triangle, by the error that each makes of it.
func faults() map[api.Errno][]func(*api.Diagram) {
	fill := func(d *api.Diagram) []api.Dart { return d.Verts[2].Ring }
	return map[api.Errno][]func(*api.Diagram){
		api.ErrForm: {
			func(d *api.Diagram) { d.Verts[0].ID = id(0, 1) },
			func(d *api.Diagram) { d.Verts[0].ID = id(1, 0) },
			func(d *api.Diagram) { d.Verts[0].ID = api.ID{} },
			func(d *api.Diagram) { d.Verts[3].ID = id(8, api.MaxCount+1) },
			func(d *api.Diagram) { d.Verts[3].ID = id(9, 1) },
			func(d *api.Diagram) { d.Verts[3].ID = id(2, 1) },
			func(d *api.Diagram) { d.Verts[1].ID = id(1, 1) },
			func(d *api.Diagram) { d.Verts[0], d.Verts[1] = d.Verts[1], d.Verts[0] },
			func(d *api.Diagram) { d.Verts[2].ID = id(1, 1) },
			func(d *api.Diagram) { d.Edges[0], d.Edges[1] = d.Edges[1], d.Edges[0] },
			func(d *api.Diagram) { d.Edges = append(d.Edges, d.Edges[3]) },
			func(d *api.Diagram) { d.Edges = append(d.Edges, api.Edge{ID: id(8, 1)}) },
			func(d *api.Diagram) { // an edge of a name that may not be, with both darts
				d.Edges = append(d.Edges, api.Edge{ID: id(9, 1)})
				d.Verts[3].Ring = []api.Dart{dart(9, 1, 0), dart(9, 1, 1)}
			},
			func(d *api.Diagram) { // the same, ahead of the others
				d.Edges = append([]api.Edge{{}}, d.Edges...)
				d.Verts[3].Ring = []api.Dart{{}, {Side: 1}}
			},
			func(d *api.Diagram) { d.Edges = d.Edges[:3] },
			func(d *api.Diagram) { d.Edges = d.Edges[1:] },
			func(d *api.Diagram) { d.Edges = nil },
			func(d *api.Diagram) { d.Verts = d.Verts[1:] },
			func(d *api.Diagram) { d.Verts = nil },
			func(d *api.Diagram) { slices.Reverse(d.Verts[0].Ring) },
			func(d *api.Diagram) { r := fill(d); r[0], r[3] = r[3], r[0] },
			func(d *api.Diagram) { d.Verts[2].Ring = append(fill(d)[1:], fill(d)[0]) },
			func(d *api.Diagram) { fill(d)[1].Side = 0 },
			func(d *api.Diagram) { fill(d)[2].Side = 2 },
			func(d *api.Diagram) { fill(d)[2].Side = -1 },
			func(d *api.Diagram) { fill(d)[1].Edge = id(8, 7) },
			func(d *api.Diagram) { d.Verts[2].Ring = fill(d)[:3] },
			func(d *api.Diagram) { d.Verts[2].Ring = append(fill(d), dart(1, 2, 1)) },
			func(d *api.Diagram) { d.Verts[2].Ring = append(fill(d), dart(1, 3, 0)) },
			func(d *api.Diagram) { d.Verts[3].Ring = []api.Dart{dart(1, 1, 0)} },
			func(d *api.Diagram) { d.Verts[3].Ring = []api.Dart{dart(3, 3, 0)} },
			func(d *api.Diagram) { d.Verts[3].Ring = []api.Dart{{}} },
			func(d *api.Diagram) { // a dart more, and one less
				d.Verts[0].Ring[1] = dart(1, 2, 0)
			},
		},
		api.ErrLabel: {
			func(d *api.Diagram) { d.Verts[0].Label = "0123456789abcdefg" },
			func(d *api.Diagram) { d.Verts[3].Label = "\x1f" },
			func(d *api.Diagram) { d.Edges[0].Label = "\x7f" },
			func(d *api.Diagram) { d.Edges[3].Label = "é" },
		},
		api.ErrArg: {
			func(d *api.Diagram) { d.Verts[0].Attr = api.MaxAttr + 1 },
			func(d *api.Diagram) { d.Verts[3].Attr = math.MinInt },
			func(d *api.Diagram) { d.Edges[0].Attr = -api.MaxAttr - 1 },
			func(d *api.Diagram) { d.Edges[3].Attr = math.MaxInt },
		},
		api.ErrBig: {
			func(d *api.Diagram) {
				for n := range 21 {
					d.Verts = append(d.Verts, api.Vertex{ID: id(8, api.MaxCount-20+n)})
				}
			},
			func(d *api.Diagram) {
				for n := range 37 {
					d.Edges = append(d.Edges, api.Edge{ID: id(9, 1+n)})
				}
			},
		},
	}
}

func TestFormOfEachFault(t *testing.T) {
	for want, l := range faults() {
		for i, fault := range l {
			d := triangle()
			fault(&d)
			if got := Form(d); got != want {
				t.Errorf("fault %d of %d: %d", i, want, got)
			}
		}
	}
}

func TestFormTellsTheFirst(t *testing.T) {
	order := []api.Errno{api.ErrBig, api.ErrForm, api.ErrLabel, api.ErrArg}
	all := faults()
	for i, first := range order {
		for _, second := range order[i+1:] {
			for _, a := range all[first] {
				for _, b := range all[second] {
					d := triangle()
					b(&d)
					if len(d.Verts) == 4 && len(d.Edges) == 4 {
						a(&d)
						if got := Form(d); got != first {
							t.Errorf("with faults of %d and %d: %d", first, second, got)
						}
					}
				}
			}
		}
	}
}

func TestFormOfTooMuch(t *testing.T) {
	for _, c := range []struct{ verts, edges int }{{25, 0}, {25, 40}, {2, 41}, {24, 41}, {25, 41}, {1000, 2}} {
		if got := Form(rows(c.verts, c.edges)); got != api.ErrBig {
			t.Errorf("%d vertices, %d edges: %d", c.verts, c.edges, got)
		}
	}
	d := rows(2, 3)
	d.Verts[0].Ring = slices.Repeat(d.Verts[0].Ring, 100000)
	if got := Form(d); got != api.ErrForm {
		t.Errorf("a long ring: %d", got)
	}
}

// P4.3

func TestVertexAndEdge(t *testing.T) {
	d := triangle()
	for _, want := range d.Verts {
		if got, ok := Vertex(d, want.ID); !ok || !sameVertex(got, want) {
			t.Errorf("vertex %v is %v, %v", want.ID, got, ok)
		}
	}
	for _, want := range d.Edges {
		if got, ok := Edge(d, want.ID); !ok || got != want {
			t.Errorf("edge %v is %v, %v", want.ID, got, ok)
		}
	}
	for _, x := range []api.ID{{}, id(1, 4), id(2, 2), id(9, 1), id(-1, -1)} {
		if v, ok := Vertex(d, x); ok || !sameVertex(v, api.Vertex{}) {
			t.Errorf("vertex %v is %v, %v", x, v, ok)
		}
		if e, ok := Edge(d, x); ok || e != (api.Edge{}) {
			t.Errorf("edge %v is %v, %v", x, e, ok)
		}
	}
	if _, ok := Vertex(d, id(1, 3)); ok {
		t.Error("the name of an edge is a vertex")
	}
	if _, ok := Edge(d, id(2, 1)); ok {
		t.Error("the name of a vertex is an edge")
	}
	twice := api.Diagram{Verts: []api.Vertex{{ID: id(1, 1), Attr: 1}, {ID: id(1, 1), Attr: 2}}, Edges: []api.Edge{{ID: id(1, 1), Attr: 3}, {ID: id(1, 1), Attr: 4}}}
	v, _ := Vertex(twice, id(1, 1))
	e, _ := Edge(twice, id(1, 1))
	if v.Attr != 1 || e.Attr != 3 {
		t.Errorf("not the first: %v, %v", v, e)
	}
}

func TestVertexIsTheCallersOwn(t *testing.T) {
	d := triangle()
	v, _ := Vertex(d, id(1, 1))
	v.Ring[0] = dart(7, 7, 7)
	_ = append(v.Ring[:1], dart(7, 7, 7))
	if !Same(d, triangle()) {
		t.Error("the diagram changed with the answer")
	}
}

func TestAt(t *testing.T) {
	d := triangle()
	for _, v := range d.Verts {
		for _, x := range v.Ring {
			if got, ok := At(d, x); got != v.ID || !ok {
				t.Errorf("%v is at %v, %v", x, got, ok)
			}
		}
	}
	for _, x := range []api.Dart{{}, dart(1, 1, 2), dart(1, 1, -1), dart(1, 4, 0), dart(2, 1, 0)} {
		if got, ok := At(d, x); got != (api.ID{}) || ok {
			t.Errorf("%v is at %v, %v", x, got, ok)
		}
	}
	twice := api.Diagram{Verts: []api.Vertex{{ID: id(1, 1)}, {ID: id(1, 2), Ring: []api.Dart{dart(1, 2, 0), dart(1, 1, 0)}}, {ID: id(1, 3), Ring: []api.Dart{dart(1, 1, 0)}}}}
	if got, ok := At(twice, dart(1, 1, 0)); got != id(1, 2) || !ok {
		t.Errorf("not the first: %v, %v", got, ok)
	}
}

func TestNames(t *testing.T) {
	want := []api.ID{id(1, 1), id(1, 2), id(2, 1), id(8, api.MaxCount), id(1, 1), id(1, 2), id(1, 3), id(8, api.MaxCount)}
	if got := Names(triangle()); !slices.Equal(got, want) {
		t.Errorf("%v", got)
	}
	if got := Names(api.Diagram{}); len(got) != 0 {
		t.Errorf("%v", got)
	}
	turned := api.Diagram{Verts: []api.Vertex{{ID: id(2, 1)}, {ID: id(1, 1)}}, Edges: []api.Edge{{ID: id(3, 1)}, {ID: id(1, 5)}}}
	if got := Names(turned); !slices.Equal(got, []api.ID{id(2, 1), id(1, 1), id(3, 1), id(1, 5)}) {
		t.Errorf("not in their order: %v", got)
	}
}

// changes make a triangle another one.
var changes = []func(*api.Diagram){
	func(d *api.Diagram) { d.Verts[0].ID.N = 7 },
	func(d *api.Diagram) { d.Verts[3].Label = "x" },
	func(d *api.Diagram) { d.Verts[1].Attr++ },
	func(d *api.Diagram) { d.Verts[1].Ring[1].Side = 1 },
	func(d *api.Diagram) { d.Verts[1].Ring = d.Verts[1].Ring[:1] },
	func(d *api.Diagram) { d.Verts[1].Ring = append(d.Verts[1].Ring[1:], d.Verts[1].Ring[0]) },
	func(d *api.Diagram) { d.Verts[3].Ring = append(d.Verts[3].Ring, dart(1, 1, 0)) },
	func(d *api.Diagram) { d.Verts = d.Verts[:3] },
	func(d *api.Diagram) { d.Verts[0], d.Verts[1] = d.Verts[1], d.Verts[0] },
	func(d *api.Diagram) { d.Verts = append(d.Verts, api.Vertex{}) },
	func(d *api.Diagram) { d.Edges[0].ID.Site = 2 },
	func(d *api.Diagram) { d.Edges[1].Label = "y" },
	func(d *api.Diagram) { d.Edges[2].Attr = 1 },
	func(d *api.Diagram) { d.Edges = d.Edges[1:] },
	func(d *api.Diagram) { d.Edges[0], d.Edges[3] = d.Edges[3], d.Edges[0] },
	func(d *api.Diagram) { d.Edges = append(d.Edges, api.Edge{}) },
}

func TestSame(t *testing.T) {
	for _, d := range []api.Diagram{{}, triangle(), rows(24, 40)} {
		if !Same(d, d) || !Same(d, Clone(d)) || !Same(Clone(d), d) {
			t.Errorf("%v is not the same as itself", d)
		}
	}
	if !Same(api.Diagram{}, api.Diagram{Verts: []api.Vertex{}, Edges: []api.Edge{}}) {
		t.Error("nothing is not the same as nothing")
	}
	empty := triangle()
	empty.Verts[3].Ring = []api.Dart{}
	if !Same(triangle(), empty) {
		t.Error("an empty ring is not the same as none")
	}
	for i, change := range changes {
		d := triangle()
		change(&d)
		if Same(d, triangle()) || Same(triangle(), d) {
			t.Errorf("with change %d it is the same", i)
		}
	}
}

func TestCloneGoesItsOwnWay(t *testing.T) {
	for i, change := range changes {
		d := triangle()
		c := Clone(d)
		change(&c)
		_ = append(c.Verts[0].Ring[:1], dart(7, 7, 7))
		if !Same(d, triangle()) {
			t.Errorf("change %d of the clone is seen", i)
		}
		c = Clone(d)
		change(&d)
		if !Same(c, triangle()) {
			t.Errorf("change %d is seen by the clone", i)
		}
	}
	if c := Clone(api.Diagram{}); len(c.Verts) != 0 || len(c.Edges) != 0 {
		t.Errorf("%v", c)
	}
}

// P4.4

func TestDartsOfWhatIsWellFormed(t *testing.T) {
	for i, d := range []api.Diagram{{}, triangle(), rows(24, 40), rows(2, 1)} {
		if Form(d) != api.OK {
			t.Fatalf("diagram %d is not well formed", i)
		}
		darts := 0
		for _, v := range d.Verts {
			darts += len(v.Ring)
		}
		if darts != 2*len(d.Edges) {
			t.Errorf("diagram %d: %d darts of %d edges", i, darts, len(d.Edges))
		}
		for _, e := range d.Edges {
			for side := range 2 {
				x := api.Dart{Edge: e.ID, Side: side}
				at, ok := At(d, x)
				v, there := Vertex(d, at)
				if !ok || !there || !slices.Contains(v.Ring, x) || !ident.MayDart(x) {
					t.Errorf("diagram %d: %v is at %v", i, x, at)
				}
			}
		}
	}
}
