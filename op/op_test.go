package op

import (
	"math"
	"slices"
	"strings"
	"testing"

	"tracery/api"
)

func id(site, n int) api.ID { return api.ID{Site: site, N: n} }

func dart(n, side int) api.Dart { return api.Dart{Edge: id(1, n), Side: side} }

// samples are operations that may be, two or more of each kind.
func samples() []api.Op {
	corner := func(n int, after api.Dart) api.Corner { return api.Corner{Vert: id(2, n), After: after} }
	return []api.Op{
		{Kind: api.AddVertex, ID: id(1, 1)},
		{Kind: api.AddVertex, ID: id(8, api.MaxCount)},
		{Kind: api.RemoveVertex, ID: id(1, 1)},
		{Kind: api.RemoveVertex, ID: id(3, 9)},
		{Kind: api.AddEdge, ID: id(1, 1), A: corner(1, api.Dart{}), B: corner(1, api.Dart{})},
		{Kind: api.AddEdge, ID: id(1, 2), A: corner(1, dart(1, 1)), B: corner(2, dart(2, 0))},
		{Kind: api.AddEdge, ID: id(1, 2), A: corner(api.MaxCount, dart(api.MaxCount, 0)), B: corner(1, api.Dart{})},
		{Kind: api.RemoveEdge, ID: id(1, 1)},
		{Kind: api.RemoveEdge, ID: id(8, 8)},
		{Kind: api.SplitEdge, ID: id(1, 1), New: id(1, 1), Other: id(1, 1)},
		{Kind: api.SplitEdge, ID: id(1, 1), New: id(8, api.MaxCount), Other: id(4, 4), N: 1},
		{Kind: api.SplitEdge, ID: id(1, 1), New: id(2, 2), Other: id(8, api.MaxCount), N: 2},
		{Kind: api.SplitEdge, ID: id(1, 1), New: id(2, 2), Other: id(4, 4), N: 3},
		{Kind: api.SmoothVertex, ID: id(1, 1), Other: id(8, api.MaxCount)},
		{Kind: api.SmoothVertex, ID: id(1, 1), Other: id(1, 1)},
		{Kind: api.SetLabel, ID: id(1, 1)},
		{Kind: api.SetLabel, ID: id(1, 1), OfEdge: true, Text: "0123456789abcdef"},
		{Kind: api.SetLabel, ID: id(1, 1), Text: " ~"},
		{Kind: api.SetAttr, ID: id(1, 1)},
		{Kind: api.SetAttr, ID: id(1, 1), OfEdge: true, N: api.MaxAttr},
		{Kind: api.SetAttr, ID: id(1, 1), N: -api.MaxAttr},
	}
}

// badIDs may not be.
var badIDs = []api.ID{{}, {Site: 1}, {N: 1}, {Site: 9, N: 1}, {Site: -1, N: 1}, {Site: 1, N: -1}, {Site: 1, N: api.MaxCount + 1}, {Site: math.MinInt, N: math.MaxInt}}

// set are changes of one field to what is not zero, by the field's name.
func set() map[string]func(*api.Op) {
	return map[string]func(*api.Op){
		"New":     func(o *api.Op) { o.New = id(1, 1) },
		"New.N":   func(o *api.Op) { o.New.N = 1 },
		"Other":   func(o *api.Op) { o.Other = id(1, 1) },
		"Other.N": func(o *api.Op) { o.Other.Site = -1 },
		"A":       func(o *api.Op) { o.A = api.Corner{Vert: id(1, 1)} },
		"A.After": func(o *api.Op) { o.A.After.Side = 1 },
		"B":       func(o *api.Op) { o.B = api.Corner{Vert: id(1, 1)} },
		"B.After": func(o *api.Op) { o.B.After = dart(1, 0) },
		"OfEdge":  func(o *api.Op) { o.OfEdge = true },
		"Text":    func(o *api.Op) { o.Text = "x" },
		"N":       func(o *api.Op) { o.N = 1 },
	}
}

// named are the fields of each kind, beside ID.
func named(kind int) []string {
	switch kind {
	case api.AddEdge:
		return []string{"A", "A.After", "B", "B.After"}
	case api.SplitEdge:
		return []string{"New", "New.N", "Other", "Other.N", "N"}
	case api.SmoothVertex:
		return []string{"Other", "Other.N"}
	case api.SetLabel:
		return []string{"OfEdge", "Text"}
	case api.SetAttr:
		return []string{"OfEdge", "N"}
	}
	return nil
}

// P9.1

func may(t *testing.T, o api.Op, want api.Errno) {
	t.Helper()
	if got := May(o); got != want {
		t.Errorf("%+v: %d, not %d", o, got, want)
	}
}

func TestMay(t *testing.T) {
	for _, o := range samples() {
		may(t, o, api.OK)
	}
}

func TestMayOfAKindThatIsNone(t *testing.T) {
	for _, kind := range []int{math.MinInt, -1, 0, 9, 10, 255, 257, math.MaxInt} {
		may(t, api.Op{Kind: kind, ID: id(1, 1)}, api.ErrArg)
		for _, o := range samples() {
			o.Kind = kind
			may(t, o, api.ErrArg)
		}
	}
	may(t, api.Op{}, api.ErrArg)
}

func TestMayOfNamesThatMayNotBe(t *testing.T) {
	for _, bad := range badIDs {
		for _, o := range samples() {
			changes := map[string]func(*api.Op){"ID": func(o *api.Op) { o.ID = bad }}
			switch o.Kind {
			case api.AddEdge:
				changes["A"] = func(o *api.Op) { o.A.Vert = bad }
				changes["B"] = func(o *api.Op) { o.B.Vert = bad }
			case api.SplitEdge:
				changes["New"] = func(o *api.Op) { o.New = bad }
				changes["Other"] = func(o *api.Op) { o.Other = bad }
			case api.SmoothVertex:
				changes["Other"] = func(o *api.Op) { o.Other = bad }
			}
			for _, change := range changes {
				wrong := o
				change(&wrong)
				may(t, wrong, api.ErrArg)
			}
		}
	}
}

func TestMayOfCornersThatMayNotBe(t *testing.T) {
	bad := []api.Dart{{Side: 1}, {Side: -1}, dart(1, 2), dart(1, -1), dart(0, 0), dart(api.MaxCount+1, 0), {Edge: id(9, 1)}, {Edge: api.ID{Site: 1}}}
	for _, o := range samples() {
		if o.Kind != api.AddEdge {
			continue
		}
		for _, after := range bad {
			a, b := o, o
			a.A.After, b.B.After = after, after
			may(t, a, api.ErrArg)
			may(t, b, api.ErrArg)
		}
	}
}

func TestMayOfNumbersThatMayNotBe(t *testing.T) {
	for _, o := range samples() {
		bad := []int{}
		switch o.Kind {
		case api.SplitEdge:
			bad = []int{math.MinInt, -1, 4, 5, 256, math.MaxInt}
		case api.SetAttr:
			bad = []int{math.MinInt, -api.MaxAttr - 1, api.MaxAttr + 1, math.MaxInt}
		}
		for _, n := range bad {
			o.N = n
			may(t, o, api.ErrArg)
		}
	}
}

func TestMayOfFieldsThatAreNotNamed(t *testing.T) {
	for _, o := range samples() {
		for field, change := range set() {
			if slices.Contains(named(o.Kind), field) {
				continue
			}
			wrong := o
			change(&wrong)
			may(t, wrong, api.ErrArg)
		}
	}
}

func TestMayOfLabels(t *testing.T) {
	for _, text := range []string{"0123456789abcdefg", "\x1f", "\x7f", "é", strings.Repeat("x", 1000)} {
		for _, ofEdge := range []bool{false, true} {
			o := api.Op{Kind: api.SetLabel, ID: id(1, 1), OfEdge: ofEdge, Text: text}
			may(t, o, api.ErrLabel)
			o.N = 1
			may(t, o, api.ErrArg)
			o.N, o.ID = 0, id(0, 0)
			may(t, o, api.ErrArg)
			may(t, api.Op{Kind: api.SetAttr, ID: id(1, 1), OfEdge: ofEdge, Text: text}, api.ErrArg)
			may(t, api.Op{Kind: api.AddVertex, ID: id(1, 1), Text: text}, api.ErrArg)
		}
	}
}

// P9.2

func TestMayEdit(t *testing.T) {
	good := samples()
	label := api.Op{Kind: api.SetLabel, ID: id(1, 1), Text: "\n"}
	wrong := api.Op{Kind: api.AddVertex, ID: id(1, 1), N: 3}
	cases := []struct {
		ops  []api.Op
		want api.Errno
	}{
		{nil, api.ErrBig},
		{[]api.Op{}, api.ErrBig},
		{good[:1], api.OK},
		{good[:6], api.OK},
		{good[6:12], api.OK},
		{good[12:18], api.OK},
		{good[:7], api.ErrBig},
		{good, api.ErrBig},
		{[]api.Op{label}, api.ErrLabel},
		{[]api.Op{wrong}, api.ErrArg},
		{[]api.Op{label, wrong}, api.ErrLabel},
		{[]api.Op{wrong, label}, api.ErrArg},
		{[]api.Op{good[0], good[1], label, good[2], wrong}, api.ErrLabel},
		{append(slices.Clone(good[:5]), wrong), api.ErrArg},
		{append(slices.Clone(good[:6]), wrong), api.ErrBig},
		{make([]api.Op, 7), api.ErrBig},
		{make([]api.Op, 6), api.ErrArg},
	}
	for i, c := range cases {
		if got := MayEdit(api.Edit{Ops: c.ops}); got != c.want {
			t.Errorf("case %d: %d, not %d", i, got, c.want)
		}
	}
}

func TestSame(t *testing.T) {
	all := samples()
	for i, a := range all {
		for j, b := range all {
			if got := Same(api.Edit{Ops: []api.Op{a}}, api.Edit{Ops: []api.Op{b}}); got != (i == j) {
				t.Errorf("%v and %v: %v", a, b, got)
			}
			twice, turned := api.Edit{Ops: []api.Op{a, b}}, api.Edit{Ops: []api.Op{b, a}}
			if got := Same(twice, turned); got != (i == j) {
				t.Errorf("%v and %v, in order and turned: %v", a, b, got)
			}
		}
		for field, change := range set() {
			b := a
			change(&b)
			if a != b && Same(api.Edit{Ops: []api.Op{a}}, api.Edit{Ops: []api.Op{b}}) {
				t.Errorf("with another %s it is the same", field)
			}
		}
	}
	if !Same(api.Edit{}, api.Edit{Ops: []api.Op{}}) || Same(api.Edit{Ops: all}, api.Edit{Ops: all[:3]}) || Same(api.Edit{}, api.Edit{Ops: all[:1]}) {
		t.Error("edits of unlike lengths")
	}
}

func TestNames(t *testing.T) {
	e := api.Edit{Ops: []api.Op{
		{Kind: api.SplitEdge, ID: id(1, 1), New: id(3, 2), Other: id(1, 3)},
		{Kind: api.AddVertex, ID: id(1, 4)},
		{Kind: api.RemoveVertex, ID: id(1, 5)},
		{Kind: api.AddEdge, ID: id(1, 6), A: api.Corner{Vert: id(1, 7)}, B: api.Corner{Vert: id(1, 8)}},
		{Kind: api.RemoveEdge, ID: id(1, 9)},
		{Kind: api.SmoothVertex, ID: id(1, 10), Other: id(1, 11)},
		{Kind: api.SetLabel, ID: id(1, 12)},
		{Kind: api.SetAttr, ID: id(1, 13)},
		{Kind: api.AddVertex, ID: id(1, 4)},
		{Kind: 0, ID: id(1, 14)},
		{Kind: 9, ID: id(1, 15), New: id(1, 16)},
	}}
	want := []api.ID{id(3, 2), id(1, 3), id(1, 4), id(1, 6), id(1, 4)}
	if got := Names(e); !slices.Equal(got, want) {
		t.Errorf("%v, not %v", got, want)
	}
	if len(Names(api.Edit{})) != 0 {
		t.Error("names of nothing")
	}
}

// P9.3

func TestWithoutOneOfItsOperations(t *testing.T) {
	all := samples()
	for from := range all {
		for to := from + 2; to <= min(from+api.MaxGroup, len(all)); to++ {
			for i := range to - from {
				ops := slices.Delete(slices.Clone(all[from:to]), i, i+1)
				if got := MayEdit(api.Edit{Ops: ops}); got != api.OK {
					t.Errorf("%v: %d", ops, got)
				}
			}
		}
	}
}
