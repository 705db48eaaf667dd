package anchor

import (
	"math/rand"
	"slices"
	"testing"

	"tracery/api"
	"tracery/diagram"
	"tracery/ident"
)

func id(n int) api.ID { return api.ID{Site: 1, N: n} }

// dart is side 0 of an edge, or side 1, if n is below 0; of 0 a zero dart.
func dart(n int) api.Dart {
	switch {
	case n < 0:
		return api.Dart{Edge: id(-n), Side: 1}
	case n > 0:
		return api.Dart{Edge: id(n)}
	}
	return api.Dart{}
}

func row(ns ...int) []api.Dart {
	var l []api.Dart
	for _, n := range ns {
		l = append(l, dart(n))
	}
	return l
}

// gone are darts and what is told of them, by twos.
func gone(ns ...int) []api.Gone {
	var l []api.Gone
	for i := 0; i+1 < len(ns); i += 2 {
		l = append(l, api.Gone{Dart: dart(ns[i]), To: dart(ns[i+1])})
	}
	return l
}

// state has a vertex of each ring, the edges of their darts, and darts that are gone.
func state(l []api.Gone, rings ...[]api.Dart) api.State {
	s := api.State{Gone: l}
	for i, r := range rings {
		s.D.Verts = append(s.D.Verts, api.Vertex{ID: id(i + 1), Ring: r})
		for _, x := range r {
			if x.Side == 0 {
				s.D.Edges = append(s.D.Edges, api.Edge{ID: x.Edge})
			}
		}
	}
	slices.SortFunc(s.D.Edges, func(a, b api.Edge) int { return ident.Order(a.ID, b.ID) })
	return s
}

// many are n darts that are gone, rising, from the edge `from` on.
func many(from, n int) []api.Gone {
	var l []api.Gone
	for i := range n {
		l = append(l, api.Gone{Dart: api.Dart{Edge: id(from + i/2), Side: i % 2}, To: dart(1)})
	}
	return l
}

// P11.1

func TestFind(t *testing.T) {
	l := gone(1, 5, -1, 0, 3, -4)
	for d, want := range map[int]int{1: 5, -1: 0, 3: -4} {
		if got, ok := Find(l, dart(d)); got != dart(want) || !ok {
			t.Errorf("%d: %v, %v", d, got, ok)
		}
	}
	for _, d := range append(row(2, -3, 4, 0), api.Dart{Edge: id(1), Side: 2}) {
		if got, ok := Find(l, d); got != (api.Dart{}) || ok {
			t.Errorf("%v: %v, %v", d, got, ok)
		}
	}
	if got, ok := Find(nil, dart(1)); got != (api.Dart{}) || ok {
		t.Errorf("in nothing: %v, %v", got, ok)
	}
	if got, ok := Find(gone(3, 1, 2, 4, 3, 2), dart(3)); got != dart(1) || !ok {
		t.Errorf("not the first: %v, %v", got, ok)
	}
}

func TestAdd(t *testing.T) {
	full := many(10, 400)
	with := func(l []api.Gone, i int, g api.Gone) []api.Gone { return slices.Insert(slices.Clone(l), i, g) }
	set := func(l []api.Gone, i int, g api.Gone) []api.Gone {
		l = slices.Clone(l)
		l[i] = g
		return l
	}
	cases := []struct {
		name string
		l    []api.Gone
		g    api.Gone
		want []api.Gone
	}{
		{"of nothing", nil, gone(2, 1)[0], gone(2, 1)},
		{"ahead", gone(2, 1, 4, 1), gone(1, 7)[0], gone(1, 7, 2, 1, 4, 1)},
		{"between", gone(2, 1, 4, 1), gone(-2, 7)[0], gone(2, 1, -2, 7, 4, 1)},
		{"behind", gone(2, 1, 4, 1), gone(5, 0)[0], gone(2, 1, 4, 1, 5, 0)},
		{"the other side", gone(-2, 1), gone(2, 3)[0], gone(2, 3, -2, 1)},
		{"in the stead", gone(2, 1, 4, 1), gone(2, 7)[0], gone(2, 7, 4, 1)},
		{"in the last one's stead", gone(2, 1, 4, 1), gone(4, 0)[0], gone(2, 1, 4, 0)},
		{"the same", gone(2, 1, 4, 1), gone(4, 1)[0], gone(2, 1, 4, 1)},
		{"the last for which there is room", full[:399], full[399], full},
		{"the same, ahead", full[1:], full[0], full},
		{"the same, between", slices.Delete(slices.Clone(full), 200, 201), full[200], full},
		{"too much", full, gone(1, 2)[0], full},
		{"too much, between", slices.Delete(many(10, 401), 200, 201), full[200], slices.Delete(many(10, 401), 200, 201)},
		{"too much, behind", full, gone(1000, 2)[0], full},
		{"in the stead, with 399 others", full, api.Gone{Dart: full[200].Dart, To: dart(9)}, set(full, 200, api.Gone{Dart: full[200].Dart, To: dart(9)})},
		{"in the stead, with 400 others", many(10, 401), api.Gone{Dart: full[200].Dart, To: dart(9)}, many(10, 401)},
		{"with 398 others", full[:398], gone(1, 2)[0], with(full[:398], 0, gone(1, 2)[0])},
	}
	for _, c := range cases {
		whole := append(slices.Clone(c.l), gone(91, 92, 93, 94)...)
		was := slices.Clone(whole)
		got := Add(whole[:len(c.l)], c.g)
		if !slices.Equal(got, c.want) {
			t.Errorf("%s: %v, not %v", c.name, got, c.want)
		}
		if !slices.Equal(whole, was) {
			t.Errorf("%s: what was handed in changed: %v", c.name, whole)
		}
		clear(got)
		_ = append(got, gone(95, 96)...)
		if !slices.Equal(whole, was) {
			t.Errorf("%s: what was handed in changed with the answer: %v", c.name, whole)
		}
	}
}

func TestAddRises(t *testing.T) {
	r := rand.New(rand.NewSource(11))
	var l []api.Gone
	told := map[api.Dart]api.Dart{}
	for range 2000 {
		g := api.Gone{Dart: api.Dart{Edge: api.ID{Site: 1 + r.Intn(8), N: 1 + r.Intn(40)}, Side: r.Intn(2)}, To: dart(r.Intn(100))}
		if _, ok := told[g.Dart]; ok || len(told) < 400 {
			told[g.Dart] = g.To
		}
		l = Add(l, g)
		if len(l) != len(told) || !slices.IsSortedFunc(l, func(a, b api.Gone) int { return ident.OrderDart(a.Dart, b.Dart) }) {
			t.Fatalf("%d darts that should be %d, or they do not rise: %v", len(l), len(told), l)
		}
	}
	for d, want := range told {
		if got, ok := Find(l, d); got != want || !ok {
			t.Errorf("%v is %v, %v, not %v", d, got, ok, want)
		}
	}
}

// P11.2

func TestResolve(t *testing.T) {
	cases := []struct {
		name    string
		s       api.State
		d, want int
	}{
		{"the example", state(gone(2, 1, 3, 2), row(1), row(-1)), 3, 1},
		{"one step", state(gone(2, 1, 3, 2), row(1), row(-1)), 2, 1},
		{"one that stands", state(gone(2, 1, 3, 2), row(1), row(-1)), 1, 1},
		{"the other side", state(gone(2, 1, 3, -1), row(1), row(-1)), 3, -1},
		{"one that stands, and of which something is told", state(gone(1, 2, 2, 3), row(1, 3), row(-1, -3)), 1, 1},
		{"a step to one that stands and of which something is told", state(gone(1, 3, 2, 1), row(1, 3), row(-1, -3)), 2, 1},
		{"one of which nothing is told", state(gone(2, 1, 3, 2), row(1), row(-1)), 4, 0},
		{"the end is one of which nothing is told", state(gone(2, 9, 3, 2), row(1), row(-1)), 3, 0},
		{"a zero dart is told", state(gone(2, 0, 3, 2), row(1), row(-1)), 3, 0},
		{"a zero dart", state(gone(2, 0, 3, 2), row(1), row(-1)), 0, 0},
		{"told of itself", state(gone(2, 2), row(1), row(-1)), 2, 0},
		{"told of in a ring", state(gone(2, 3, 3, 4, 4, 2), row(1), row(-1)), 4, 0},
		{"into a ring of those that are told", state(gone(2, 3, 3, 4, 4, 3), row(1), row(-1)), 2, 0},
		{"as many steps as there are gone", state(gone(2, 3, 3, 4, 4, 1), row(1), row(-1)), 2, 1},
		{"as many steps, in the other order", state(gone(2, 1, 3, 2, 4, 3), row(1), row(-1)), 4, 1},
		{"of nothing gone", state(nil, row(1), row(-1)), 2, 0},
		{"of an empty state", api.State{}, 2, 0},
		{"at another vertex", state(gone(5, -3), row(1, 2), row(-1, 3), row(-3, -2)), 5, -3},
		{"the first that is told", state(gone(2, 1, 2, 3), row(1, 3), row(-1, -3)), 2, 1},
	}
	for _, c := range cases {
		if got := Resolve(c.s, dart(c.d)); got != dart(c.want) {
			t.Errorf("%s: %v, not %v", c.name, got, dart(c.want))
		}
	}
	if got := Resolve(state(gone(2, 1), row(1), row(-1)), api.Dart{Edge: id(1), Side: 2}); got != (api.Dart{}) {
		t.Errorf("a dart of side 2: %v", got)
	}
}

func TestResolveAlongAll(t *testing.T) {
	var l []api.Gone
	for n := range 400 {
		l = append(l, api.Gone{Dart: dart(n + 2), To: dart(n + 1)})
	}
	s := state(l, row(1), row(-1))
	for n := 1; n <= 401; n++ {
		if got := Resolve(s, dart(n)); got != dart(1) {
			t.Errorf("%d: %v", n, got)
		}
	}
	s.D = state(nil, row(500), row(-500)).D
	if got := Resolve(s, dart(401)); got != (api.Dart{}) {
		t.Errorf("to one that is not there: %v", got)
	}
}

func TestCorner(t *testing.T) {
	s := state(gone(4, 1, 5, -1, 6, 9), row(1, 2), row(-1), nil, row(-2))
	cases := []struct{ vert, after, want int }{
		{1, 1, 1},
		{1, 2, 2},
		{1, 4, 1},
		{1, 5, 0},
		{1, -1, 0},
		{1, 6, 0},
		{1, 7, 0},
		{1, 0, 0},
		{2, -1, -1},
		{2, 5, -1},
		{2, 4, 0},
		{2, 1, 0},
		{3, 0, 0},
		{3, 1, 0},
		{3, 4, 0},
		{4, -2, -2},
	}
	for _, c := range cases {
		want := api.Corner{Vert: id(c.vert), After: dart(c.want)}
		if got, err := Corner(s, api.Corner{Vert: id(c.vert), After: dart(c.after)}); got != want || err != api.OK {
			t.Errorf("behind %d of %d: %v, %d, not %v", c.after, c.vert, got, err, want)
		}
	}
	for _, x := range []api.ID{{}, id(5), id(0), {Site: 2, N: 1}} {
		for _, after := range row(0, 1, 4, 9) {
			if got, err := Corner(s, api.Corner{Vert: x, After: after}); got != (api.Corner{}) || err != api.ErrGone {
				t.Errorf("behind %v of %v: %v, %d", after, x, got, err)
			}
		}
	}
}

func TestNothingIsChanged(t *testing.T) {
	make := func() api.State { return state(gone(4, 1, 5, -1), row(1, 2), row(-1), row(-2)) }
	s := make()
	Resolve(s, dart(5))
	Corner(s, api.Corner{Vert: id(1), After: dart(4)})
	if !diagram.Same(s.D, make().D) || !slices.Equal(s.Gone, make().Gone) {
		t.Error("the state changed")
	}
}

// P11.3

func TestResolvedToItself(t *testing.T) {
	r := rand.New(rand.NewSource(12))
	for range 300 {
		s := state(nil, row(1, 2), row(-1, 3), row(-2, -3), nil)
		for range r.Intn(12) {
			d := dart(r.Intn(8) + 1)
			d.Side = r.Intn(2)
			s.Gone = Add(s.Gone, api.Gone{Dart: d, To: dart(r.Intn(17) - 8)})
		}
		for n := range 23 {
			d := Resolve(s, dart(n-11))
			if again := Resolve(s, d); again != d {
				t.Errorf("%v: %v is resolved to %v", s.Gone, d, again)
			}
			for vert := range 4 {
				c, err := Corner(s, api.Corner{Vert: id(vert + 1), After: dart(n - 11)})
				if again, err2 := Corner(s, c); err != api.OK || again != c || err2 != api.OK {
					t.Errorf("%v: %v is resolved to %v", s.Gone, c, again)
				}
			}
		}
	}
}
