package hist

import (
	"math"
	"math/rand"
	"slices"
	"strings"
	"testing"

	"tracery/api"
	"tracery/diagram"
	"tracery/edit"
	"tracery/fold"
	"tracery/op"
)

func id(n int) api.ID { return api.ID{Site: 1, N: n} }

func same(a, b api.State) bool { return diagram.Same(a.D, b.D) && slices.Equal(a.Gone, b.Gone) }

func one(o api.Op) api.Edit { return api.Edit{Ops: []api.Op{o}} }

func newVertex(n int) api.Edit { return one(api.Op{Kind: api.AddVertex, ID: id(n)}) }

func newEdge(n, from, to int) api.Edit {
	return one(api.Op{Kind: api.AddEdge, ID: id(n), A: api.Corner{Vert: id(from)}, B: api.Corner{Vert: id(to)}})
}

func dropEdge(n int) api.Edit { return one(api.Op{Kind: api.RemoveEdge, ID: id(n)}) }

// chance is an edit of few names that may be, and can be done or not.
func chance(r *rand.Rand) api.Edit {
	name := func() api.ID { return id(1 + r.Intn(6)) }
	switch r.Intn(6) {
	case 0, 1:
		return one(api.Op{Kind: api.AddVertex, ID: name()})
	case 2, 3:
		return one(api.Op{Kind: api.AddEdge, ID: name(), A: api.Corner{Vert: name()}, B: api.Corner{Vert: name(), After: api.Dart{Edge: name()}}})
	case 4:
		return one(api.Op{Kind: api.RemoveEdge, ID: name()})
	}
	return api.Edit{Ops: []api.Op{{Kind: api.SetAttr, ID: name(), N: r.Intn(9)}, {Kind: api.SetLabel, ID: name(), OfEdge: true, Text: strings.Repeat("x", r.Intn(3))}}}
}

func add(t *testing.T, h *Hist, e api.Edit, want int) {
	t.Helper()
	if got, err := h.Add(e); got != want || err != api.OK {
		t.Errorf("Add is %d, %d, not %d", got, err, want)
	}
}

// tells asks for all that a history tells, that began empty and to which these edits came.
func tells(t *testing.T, h *Hist, first int, all []api.Edit) {
	t.Helper()
	if h.First() != first || h.Last() != len(all) {
		t.Fatalf("it is %d to %d, not %d to %d", h.First(), h.Last(), first, len(all))
	}
	if got, want := h.State(), fold.All(edit.Empty(), all); !same(got, want) {
		t.Errorf("State is %v, not %v", got, want)
	}
	for n := first; n <= len(all); n++ {
		if got, err := h.At(n); !same(got, fold.All(edit.Empty(), all[:n])) || err != api.OK {
			t.Errorf("At %d is %v, %d", n, got, err)
		}
		if got, err := h.Since(n); !slices.EqualFunc(got, all[n:], op.Same) || err != api.OK {
			t.Errorf("Since %d are %v, %d, not %v", n, got, err, all[n:])
		}
	}
	for _, n := range []int{math.MinInt, -1, first - 1, len(all) + 1, len(all) + 64, math.MaxInt} {
		if got, err := h.At(n); !same(got, api.State{}) || err != api.ErrNone {
			t.Errorf("At %d is %v, %d", n, got, err)
		}
		if got, err := h.Since(n); got != nil || err != api.ErrNone {
			t.Errorf("Since %d are %v, %d", n, got, err)
		}
		if err := h.Clone().Compact(n); err != api.ErrNone {
			t.Errorf("Compact of %d is %d", n, err)
		}
	}
}

// P18.1

func TestExample(t *testing.T) {
	h := New()
	tells(t, h, 0, nil)
	add(t, h, newVertex(1), 1)
	if err := h.Compact(1); err != api.OK || h.First() != 1 || h.Last() != 1 {
		t.Errorf("%d, %d to %d", err, h.First(), h.Last())
	}
	tells(t, h, 1, []api.Edit{newVertex(1)})
}

func TestAddOfWhatMayNotBe(t *testing.T) {
	h := New()
	for range api.MaxHist + 1 {
		for _, e := range []api.Edit{{}, {Ops: make([]api.Op, 7)}, {Ops: make([]api.Op, 1)}, one(api.Op{Kind: api.SetLabel, ID: id(1), Text: "\n"})} {
			want := op.MayEdit(e)
			if got, err := h.Add(e); got != 0 || err != want || err == api.OK {
				t.Fatalf("%v: %d, %d, not %d", e, got, err, want)
			}
		}
		h.Add(newVertex(1))
	}
	tells(t, h, 0, slices.Repeat([]api.Edit{newVertex(1)}, api.MaxHist))
}

func TestFull(t *testing.T) {
	h := New()
	var all []api.Edit
	fill := func(upTo int) {
		for len(all) < upTo {
			all = append(all, newVertex(len(all)%30+1))
			add(t, h, all[len(all)-1], len(all))
		}
		if got, err := h.Add(newVertex(1)); got != 0 || err != api.ErrFull {
			t.Errorf("of one that is full: %d, %d", got, err)
		}
	}
	fill(64)
	tells(t, h, 0, all)
	if err := h.Compact(3); err != api.OK {
		t.Error(err)
	}
	tells(t, h, 3, all)
	fill(67)
	tells(t, h, 3, all)
	if err := h.Compact(67); err != api.OK {
		t.Error(err)
	}
	tells(t, h, 67, all)
	fill(131)
	tells(t, h, 67, all)
}

func TestAgainstARow(t *testing.T) {
	r := rand.New(rand.NewSource(23))
	for range 30 {
		h := New()
		first := 0
		var all []api.Edit
		for range 80 {
			switch r.Intn(12) {
			case 0:
				n := first + r.Intn(len(all)-first+1)
				state := h.State()
				if err := h.Compact(n); err != api.OK {
					t.Errorf("Compact of %d is %d", n, err)
				}
				// P18.3
				if !same(h.State(), state) || h.Last() != len(all) {
					t.Errorf("Compact of %d changed the state, or the last one", n)
				}
				first = n
			case 1:
				was := h
				h = h.Clone()
				was.Add(newVertex(5))
				was.Compact(was.Last())
			default:
				if len(all)-first == api.MaxHist {
					continue
				}
				all = append(all, chance(r))
				add(t, h, all[len(all)-1], len(all))
			}
		}
		tells(t, h, first, all)
	}
}

func TestWhatIsHandedInAndOut(t *testing.T) {
	h := New()
	all := []api.Edit{newVertex(1), newVertex(2), newEdge(1, 1, 2), dropEdge(1), newEdge(2, 2, 1)}
	for i, e := range all {
		given := api.Edit{Ops: append(slices.Clone(e.Ops), api.Op{})[:len(e.Ops)]}
		add(t, h, given, i+1)
		clear(given.Ops)
	}
	tells(t, h, 0, all)
	spoil := func(s api.State) {
		for _, v := range s.D.Verts {
			clear(v.Ring)
		}
		clear(s.D.Verts)
		clear(s.D.Edges)
		clear(s.Gone)
	}
	for _, first := range []int{0, 3, 5} {
		h.Compact(first)
		spoil(h.State())
		at, _ := h.At(first)
		spoil(at)
		since, _ := h.Since(first)
		for _, e := range since {
			clear(e.Ops)
		}
		_ = append(since, newVertex(9))
		clear(since)
		tells(t, h, first, all)
	}
}

func TestCloneGoesItsOwnWay(t *testing.T) {
	h := New()
	all := []api.Edit{newVertex(1), newVertex(2), newEdge(1, 1, 2)}
	for i, e := range all {
		add(t, h, e, i+1)
	}
	c, d := h.Clone(), h.Clone()
	add(t, h, newVertex(3), 4)
	add(t, c, newVertex(4), 4)
	if d.Compact(2) != api.OK {
		t.Error("Compact")
	}
	add(t, d, newVertex(5), 4)
	e := d.Clone()
	add(t, e, newVertex(6), 5)
	add(t, d, newVertex(7), 5)
	tells(t, h, 0, append(slices.Clone(all), newVertex(3)))
	tells(t, c, 0, append(slices.Clone(all), newVertex(4)))
	tells(t, d, 2, append(slices.Clone(all), newVertex(5), newVertex(7)))
	tells(t, e, 2, append(slices.Clone(all), newVertex(5), newVertex(6)))
	tells(t, New().Clone(), 0, nil)
}
