package ring

import (
	"math"
	"slices"
	"testing"

	"tracery/api"
)

// dart is side 0 of an edge of site 1, or side 1, if n is below 0.
func dart(n int) api.Dart {
	if n < 0 {
		return api.Dart{Edge: api.ID{Site: 1, N: -n}, Side: 1}
	}
	return api.Dart{Edge: api.ID{Site: 1, N: n}}
}

func row(ns ...int) []api.Dart {
	var l []api.Dart
	for _, n := range ns {
		l = append(l, dart(n))
	}
	return l
}

func same(t *testing.T, what string, got, want []api.Dart) {
	t.Helper()
	if !slices.Equal(got, want) {
		t.Errorf("%s is %v, not %v", what, got, want)
	}
}

// own calls with a row that has room behind its end, and asks that neither row nor room is changed or shared.
func own(t *testing.T, what string, l []api.Dart, call func([]api.Dart) []api.Dart) {
	t.Helper()
	whole := append(slices.Clone(l), row(71, 72, 73, 74)...)
	was := slices.Clone(whole)
	got := call(whole[:len(l)])
	first := slices.Clone(got)
	for i := range got {
		got[i] = dart(99)
	}
	_ = append(got, dart(98))
	same(t, what+": the row handed in", whole, was)
	got = call(whole[:len(l)])
	clear(whole)
	same(t, what+": the answer", got, first)
}

// P3.1

func TestTurn(t *testing.T) {
	cases := []struct{ l, want []api.Dart }{
		{nil, nil},
		{[]api.Dart{}, nil},
		{row(5), row(5)},
		{row(3, 1, 2), row(1, 2, 3)},
		{row(1, 2, 3), row(1, 2, 3)},
		{row(2, 3, 1), row(1, 2, 3)},
		{row(1, 3, 2), row(1, 3, 2)},
		{row(3, 2, 1), row(1, 3, 2)},
		{row(-1, 1), row(1, -1)},
		{row(2, -1, 7, 1, -2), row(1, -2, 2, -1, 7)},
		{row(2, -1, 7, -2), row(-1, 7, -2, 2)},
		{[]api.Dart{{Edge: api.ID{Site: 2, N: 1}}, {Edge: api.ID{Site: 1, N: 9}}}, []api.Dart{{Edge: api.ID{Site: 1, N: 9}}, {Edge: api.ID{Site: 2, N: 1}}}},
		{[]api.Dart{{Side: 3}, {Edge: api.ID{Site: math.MinInt}, Side: math.MaxInt}, {}}, []api.Dart{{Edge: api.ID{Site: math.MinInt}, Side: math.MaxInt}, {}, {Side: 3}}},
	}
	for _, c := range cases {
		same(t, "Turn", Turn(c.l), c.want)
		own(t, "Turn", c.l, Turn)
	}
}

func TestIndex(t *testing.T) {
	l := row(4, -2, 2, 9)
	for i, d := range l {
		if Index(l, d) != i {
			t.Errorf("%v is at %d, not %d", d, Index(l, d), i)
		}
	}
	for _, d := range []api.Dart{dart(-4), dart(1), {}, {Edge: api.ID{Site: 2, N: 4}}, {Edge: api.ID{Site: 1, N: 4}, Side: 2}} {
		if Index(l, d) != -1 || Index(nil, d) != -1 {
			t.Errorf("%v is at %d", d, Index(l, d))
		}
	}
}

func TestNextAndPrev(t *testing.T) {
	for _, l := range [][]api.Dart{row(7), row(1, 2), row(2, 1), row(4, -2, 2, 9), row(1, 5, 3, 4, 2)} {
		for i, d := range l {
			next, prev := l[(i+1)%len(l)], l[(i+len(l)-1)%len(l)]
			if got, ok := Next(l, d); got != next || !ok {
				t.Errorf("Next of %v in %v is %v, %v", d, l, got, ok)
			}
			if got, ok := Prev(l, d); got != prev || !ok {
				t.Errorf("Prev of %v in %v is %v, %v", d, l, got, ok)
			}
		}
	}
	for _, l := range [][]api.Dart{nil, row(1), row(1, 2, 3)} {
		for _, d := range []api.Dart{dart(-1), dart(8), {}} {
			if got, ok := Next(l, d); got != (api.Dart{}) || ok {
				t.Errorf("Next of %v in %v is %v, %v", d, l, got, ok)
			}
			if got, ok := Prev(l, d); got != (api.Dart{}) || ok {
				t.Errorf("Prev of %v in %v is %v, %v", d, l, got, ok)
			}
		}
	}
}

// P3.2

func TestInsert(t *testing.T) {
	cases := []struct {
		l        []api.Dart
		after, d int
		want     []api.Dart
	}{
		{row(1, 2), 1, 3, row(1, 3, 2)},
		{row(1, 2), 2, 3, row(1, 2, 3)},
		{row(1, 2), 9, 3, row(1, 3, 2)},
		{row(2, 3), 3, 1, row(1, 2, 3)},
		{row(2, 3), 2, 1, row(1, 3, 2)},
		{row(2, 3), 9, 1, row(1, 3, 2)},
		{row(3, 1, 2), 3, 4, row(1, 2, 3, 4)},
		{row(3, 1, 2), 9, 4, row(1, 2, 3, 4)},
		{row(3, 1, 2), 2, 4, row(1, 2, 4, 3)},
		{nil, 1, 3, row(3)},
		{nil, 3, 3, row(3)},
		{row(5), 5, 3, row(3, 5)},
		{row(5), 9, 7, row(5, 7)},
		{row(1, 2, 3), 3, 1, row(1, 2, 3)},
		{row(3, 1, 2), 1, 2, row(1, 2, 3)},
		{row(2, 1), 9, 1, row(1, 2)},
		{row(2, 3), 4, 4, row(2, 4, 3)},
		{row(1, 5), 1, -1, row(1, -1, 5)},
	}
	for _, c := range cases {
		insert := func(l []api.Dart) []api.Dart { return Insert(l, dart(c.after), dart(c.d)) }
		same(t, "Insert", insert(c.l), c.want)
		own(t, "Insert", c.l, insert)
	}
	same(t, "behind a zero dart", Insert(row(1, 2), api.Dart{}, dart(3)), row(1, 3, 2))
	same(t, "of an empty row", Insert([]api.Dart{}, api.Dart{}, dart(3)), row(3))
}

func TestRemove(t *testing.T) {
	cases := []struct {
		l    []api.Dart
		d    int
		want []api.Dart
	}{
		{nil, 1, nil},
		{row(1), 1, nil},
		{row(1), 2, row(1)},
		{row(1, 2, 3), 1, row(2, 3)},
		{row(1, 2, 3), 2, row(1, 3)},
		{row(1, 2, 3), 3, row(1, 2)},
		{row(1, 3, 2), 1, row(2, 3)},
		{row(3, 1, 2), 2, row(1, 3)},
		{row(3, 1, 2), -2, row(1, 2, 3)},
		{row(4, 3, 2, 1), 1, row(2, 4, 3)},
	}
	for _, c := range cases {
		remove := func(l []api.Dart) []api.Dart { return Remove(l, dart(c.d)) }
		same(t, "Remove", remove(c.l), c.want)
		own(t, "Remove", c.l, remove)
	}
}

func TestSwap(t *testing.T) {
	cases := []struct {
		l      []api.Dart
		old, d int
		want   []api.Dart
	}{
		{nil, 1, 2, nil},
		{row(1), 1, 2, row(2)},
		{row(1), 3, 2, row(1)},
		{row(1, 2, 3), 1, 4, row(2, 3, 4)},
		{row(1, 2, 3), 2, 4, row(1, 4, 3)},
		{row(2, 3, 4), 3, 1, row(1, 4, 2)},
		{row(3, 1, 2), 3, 4, row(1, 2, 4)},
		{row(3, 1, 2), 4, 5, row(1, 2, 3)},
		{row(3, 1, 2), 3, 2, row(1, 2, 3)},
		{row(3, 1, 2), 3, 3, row(1, 2, 3)},
		{row(3, 1, 2), 1, 3, row(1, 2, 3)},
		{row(1, 2), 2, -1, row(1, -1)},
	}
	for _, c := range cases {
		swap := func(l []api.Dart) []api.Dart { return Swap(l, dart(c.old), dart(c.d)) }
		same(t, "Swap", swap(c.l), c.want)
		own(t, "Swap", c.l, swap)
	}
}

func TestSame(t *testing.T) {
	rings := [][]api.Dart{nil, row(1), row(2), row(-1), row(1, 2), row(1, -1), row(1, 2, 3), row(1, 3, 2), row(1, 2, 3, 4), row(1, 2, 4, 3), row(1, 3, 2, 4), row(1, 3, 4, 2), row(1, 4, 2, 3), row(1, 4, 3, 2)}
	for i, a := range rings {
		for j, b := range rings {
			for from := range max(len(b), 1) {
				shifted := append(slices.Clone(b[from:]), b[:from]...)
				if got := Same(a, shifted); got != (i == j) {
					t.Errorf("Same(%v, %v) is %v", a, shifted, got)
				}
				if got := Same(shifted, a); got != (i == j) {
					t.Errorf("Same(%v, %v) is %v", shifted, a, got)
				}
			}
		}
	}
	if !Same(nil, []api.Dart{}) {
		t.Error("two empty rings are not the same")
	}
	l := row(2, 1)
	Same(l, l)
	same(t, "the row handed to Same", l, row(2, 1))
}

// P3.3

func TestInsertedAndRemoved(t *testing.T) {
	for _, l := range [][]api.Dart{nil, row(1), row(2, 1), row(4, -2, 2, 9), row(5, 1, 4, 2, 3)} {
		for _, d := range row(-1, 6, 8, -9) {
			for _, after := range append(row(7, -7), l...) {
				long := Insert(l, after, d)
				if len(long) != len(l)+1 || Index(long, d) < 0 || !Same(long, Turn(long)) || !slices.Equal(long, Turn(long)) {
					t.Errorf("Insert(%v, %v, %v) is %v", l, after, d, long)
				}
				if prev, _ := Prev(long, d); Index(l, after) >= 0 && prev != after {
					t.Errorf("Insert(%v, %v, %v) is %v", l, after, d, long)
				}
				same(t, "what is inserted and removed", Remove(long, d), Turn(l))
				if !Same(Remove(long, d), l) {
					t.Errorf("%v with and without %v behind %v", l, d, after)
				}
			}
		}
	}
}

func TestSwappedAndSwappedBack(t *testing.T) {
	for _, l := range [][]api.Dart{row(1), row(2, 1), row(4, -2, 2, 9)} {
		for _, old := range l {
			same(t, "what is swapped and swapped back", Swap(Swap(l, old, dart(7)), dart(7), old), Turn(l))
		}
	}
}
