package fold

import (
	"bytes"
	"math/rand"
	"slices"
	"strings"
	"testing"

	"tracery/api"
	"tracery/diagram"
	"tracery/edit"
	"tracery/euler"
)

func id(n int) api.ID { return api.ID{Site: 1, N: n} }

func same(a, b api.State) bool { return diagram.Same(a.D, b.D) && slices.Equal(a.Gone, b.Gone) }

func clones(s api.State) api.State {
	return api.State{D: diagram.Clone(s.D), Gone: slices.Clone(s.Gone)}
}

func edits(ops ...api.Op) []api.Edit {
	var l []api.Edit
	for _, o := range ops {
		l = append(l, api.Edit{Ops: []api.Op{o}})
	}
	return l
}

func newVertex(n int) api.Op { return api.Op{Kind: api.AddVertex, ID: id(n)} }

func dropEdge(n int) api.Op { return api.Op{Kind: api.RemoveEdge, ID: id(n)} }

func newEdge(n, from, to int) api.Op {
	return api.Op{Kind: api.AddEdge, ID: id(n), A: api.Corner{Vert: id(from)}, B: api.Corner{Vert: id(to)}}
}

// chance is a row of edits of few names; most may be, some can be done.
func chance(r *rand.Rand, size int) []api.Edit {
	name := func() api.ID { return api.ID{Site: 1 + r.Intn(2), N: 1 + r.Intn(6)} }
	corner := func() api.Corner {
		return api.Corner{Vert: name(), After: api.Dart{Edge: name(), Side: r.Intn(2)}}
	}
	kinds := []int{1, 1, 1, 1, 1, 1, 2, 2, 3, 3, 3, 3, 3, 3, 3, 3, 4, 4, 5, 5, 6, 6, 6, 6, 7, 7, 8, 8, 9}
	var l []api.Edit
	for range size {
		var e api.Edit
		for range []int{0, 1, 1, 1, 1, 1, 2, 2, 3}[r.Intn(9)] {
			o := api.Op{Kind: kinds[r.Intn(len(kinds))], ID: name()}
			switch o.Kind {
			case api.AddEdge:
				o.A, o.B = corner(), corner()
			case api.SplitEdge:
				o.New, o.Other, o.N = name(), name(), r.Intn(4)
			case api.SmoothVertex:
				o.Other = name()
			case api.SetLabel:
				o.OfEdge, o.Text = r.Intn(2) == 0, strings.Repeat("x", r.Intn(3))
			case api.SetAttr:
				o.OfEdge, o.N = r.Intn(2) == 0, r.Intn(5)-2
			}
			e.Ops = append(e.Ops, o)
		}
		l = append(l, e)
	}
	return l
}

// rows are rows of edits, and states in which they are done.
func rows(t *testing.T, ask func(s api.State, l []api.Edit)) {
	t.Helper()
	r := rand.New(rand.NewSource(17))
	done := 0
	for range 120 {
		s := edit.Empty()
		for _, e := range chance(r, r.Intn(60)) {
			s = edit.Try(s, e)
		}
		l := chance(r, r.Intn(40))
		for _, ok := range Done(s, l) {
			if ok {
				done++
			}
		}
		was := clones(s)
		ask(s, l)
		if !same(s, was) {
			t.Fatal("the state changed")
		}
	}
	if done < 200 {
		t.Errorf("only %d were done", done)
	}
}

// P14.1

func TestAllIsTryOfEach(t *testing.T) {
	rows(t, func(s api.State, l []api.Edit) {
		want := clones(s)
		for i, e := range l {
			_, err := edit.Apply(want, e)
			want = edit.Try(want, e)
			if got := All(s, l[:i+1]); !same(got, want) {
				t.Fatalf("%v of %v: %v, not %v", l[:i+1], s, got, want)
			}
			if got := Done(s, l[:i+1]); len(got) != i+1 || got[i] != (err == api.OK) {
				t.Fatalf("%v of %v: done are %v", l[:i+1], s, got)
			}
		}
		if got := All(s, nil); !same(got, s) {
			t.Errorf("of no edits: %v, not %v", got, s)
		}
	})
}

func TestDone(t *testing.T) {
	l := edits(newVertex(1), newVertex(1), newEdge(1, 1, 1), newEdge(1, 1, 1), dropEdge(1), dropEdge(1), api.Op{})
	l = append(l, api.Edit{}, api.Edit{Ops: []api.Op{newVertex(2), newVertex(3)}}, api.Edit{Ops: []api.Op{newVertex(4), newVertex(3)}})
	want := []bool{true, false, true, false, true, false, false, false, true, false}
	if got := Done(edit.Empty(), l); !slices.Equal(got, want) {
		t.Errorf("%v, not %v", got, want)
	}
	if got := Done(edit.Empty(), nil); len(got) != 0 {
		t.Errorf("of no edits: %v", got)
	}
	if got := All(edit.Empty(), l); len(got.D.Verts) != 3 || len(got.D.Edges) != 0 || len(got.Gone) != 2 {
		t.Errorf("%v", got)
	}
}

func TestBytes(t *testing.T) {
	s := edit.Empty()
	if got := Bytes(s); string(got) != "\x00\x00" {
		t.Errorf("of nothing: %x", got)
	}
	s.D.Verts = []api.Vertex{{ID: id(1)}}
	const vertex = "\x00\x01\x01\x00\x00\x01\x00\x00\x00\x00\x00\x00\x00\x00\x00\x00"
	if got := Bytes(s); string(got) != vertex {
		t.Errorf("of a vertex: %x", got)
	}
	s.Gone = []api.Gone{
		{Dart: api.Dart{Edge: api.ID{Site: 2, N: 258}, Side: 1}},
		{Dart: api.Dart{Edge: api.ID{Site: 3, N: 1}}, To: api.Dart{Edge: api.ID{Site: 8, N: api.MaxCount}, Side: 1}},
	}
	want := vertex + "\x02\x00\x01\x02\x01" + "\x00\x00\x00\x00\x00" + "\x03\x00\x00\x01\x00" + "\x08\x10\x00\x00\x01"
	if got := Bytes(s); string(got) != want {
		t.Errorf("with two darts gone: %x, not %x", got, want)
	}
	clear(Bytes(s))
	if string(Bytes(s)) != want {
		t.Error("the state changed with the answer")
	}
}

func TestEqual(t *testing.T) {
	rows(t, func(s api.State, l []api.Edit) {
		if !Equal(s, s) || !Equal(s, clones(s)) {
			t.Errorf("%v is not equal to itself", s)
		}
		next := All(s, l)
		if got := Equal(s, next); got != same(s, next) || got != bytes.Equal(Bytes(s), Bytes(next)) {
			t.Errorf("%v and %v: %v", s, next, got)
		}
	})
	a := api.State{Gone: []api.Gone{{Dart: api.Dart{Edge: id(1)}}}}
	b := clones(a)
	b.Gone[0].To = api.Dart{Edge: id(2)}
	if Equal(a, edit.Empty()) || Equal(a, b) {
		t.Error("with other darts gone they are equal")
	}
	b = clones(a)
	b.Gone[0].Dart.Side = 1
	if Equal(a, b) {
		t.Error("with the other side gone they are equal")
	}
}

func TestNothingIsShared(t *testing.T) {
	s := All(edit.Empty(), edits(newVertex(1), newVertex(2), newEdge(1, 1, 2), newEdge(2, 1, 2), dropEdge(2)))
	was := clones(s)
	for _, l := range [][]api.Edit{nil, {{}}, edits(newVertex(1)), edits(newVertex(3))} {
		for name, call := range map[string]func() api.State{
			"All":  func() api.State { return All(s, l) },
			"Undo": func() api.State { out, _ := Undo(s, l); return out },
		} {
			out := call()
			clear(out.D.Verts[0].Ring)
			clear(out.D.Verts)
			clear(out.D.Edges)
			clear(out.Gone)
			if !same(s, was) {
				t.Errorf("%s of %v: the state changed with the answer", name, l)
			}
		}
	}
}

// P14.2 and P14.3

func TestUndo(t *testing.T) {
	rows(t, func(s api.State, l []api.Edit) {
		got, err := Undo(s, l)
		if err != api.OK || !diagram.Same(got.D, s.D) {
			t.Fatalf("%v of %v is taken back to %v, %d", l, s, got, err)
		}
		if euler.May(got.D) != api.OK || len(got.Gone) < len(All(s, l).Gone) {
			t.Errorf("%v of %v: what is gone is %v", l, s, got.Gone)
		}
	})
}

func TestUndoRemembersWhatItTookBack(t *testing.T) {
	s := All(edit.Empty(), edits(newVertex(1)))
	got, err := Undo(s, edits(newVertex(2), newEdge(1, 1, 2), newVertex(1), api.Op{}))
	want := clones(s)
	want.Gone = []api.Gone{{Dart: api.Dart{Edge: id(1)}}, {Dart: api.Dart{Edge: id(1), Side: 1}}}
	if err != api.OK || !same(got, want) {
		t.Errorf("%v, %d, not %v", got, err, want)
	}
	if got, err := Undo(s, nil); err != api.OK || !same(got, s) {
		t.Errorf("of no edits: %v, %d", got, err)
	}
}

func TestAllOfTwoRows(t *testing.T) {
	rows(t, func(s api.State, l []api.Edit) {
		for i := range len(l) + 1 {
			if got, want := All(All(s, l[:i]), l[i:]), All(s, l); !same(got, want) {
				t.Fatalf("%v of %v, at %d: %v, not %v", l, s, i, got, want)
			}
			done := append(Done(s, l[:i]), Done(All(s, l[:i]), l[i:])...)
			if !slices.Equal(done, Done(s, l)) {
				t.Fatalf("%v of %v, at %d: done are %v", l, s, i, done)
			}
		}
	})
}
