package pack

import (
	"bytes"
	"math"
	"math/rand"
	"slices"
	"strings"
	"testing"

	"tracery/api"
	"tracery/diagram"
	"tracery/euler"
	"tracery/ring"
)

func id(site, n int) api.ID { return api.ID{Site: site, N: n} }

func dart(site, n, side int) api.Dart { return api.Dart{Edge: id(site, n), Side: side} }

// drawing has two vertices, an edge between them, and a loop.
func drawing() api.Diagram {
	return api.Diagram{
		Verts: []api.Vertex{
			{ID: id(1, 1), Label: "a b", Attr: -2, Ring: []api.Dart{dart(1, 7, 1), dart(2, 258, 0), dart(2, 258, 1)}},
			{ID: id(8, api.MaxCount), Attr: 1 << 40, Ring: []api.Dart{dart(1, 7, 0)}},
		},
		Edges: []api.Edge{{ID: id(1, 7), Label: "~", Attr: 258}, {ID: id(2, 258)}},
	}
}

const drawn = "\x02" +
	"\x01\x00\x00\x07" + "\x01~" + "\x00\x00\x00\x00\x00\x00\x01\x02" +
	"\x02\x00\x01\x02" + "\x00" + "\x00\x00\x00\x00\x00\x00\x00\x00" +
	"\x02" +
	"\x01\x00\x00\x01" + "\x03a b" + "\xff\xff\xff\xff\xff\xff\xff\xfe" + "\x03\x80\x01\x81" +
	"\x08\x10\x00\x00" + "\x00" + "\x00\x00\x01\x00\x00\x00\x00\x00" + "\x01\x00"

// most has as many vertices and edges as there may be.
func most() api.Diagram {
	var d api.Diagram
	for n := range api.MaxVerts {
		d.Verts = append(d.Verts, api.Vertex{ID: id(1+n/4, 1+n), Label: strings.Repeat("v", 16), Attr: n - api.MaxAttr})
	}
	for n := range api.MaxEdges {
		d.Edges = append(d.Edges, api.Edge{ID: id(1+n/6, 1+n), Label: strings.Repeat("e", n%17), Attr: api.MaxAttr - n})
		d.Verts[5].Ring = append(d.Verts[5].Ring, api.Dart{Edge: d.Edges[n].ID}, api.Dart{Edge: d.Edges[n].ID, Side: 1})
	}
	return d
}

// chance is a diagram that may be.
func chance(r *rand.Rand) api.Diagram {
	for {
		var d api.Diagram
		for n := range 1 + r.Intn(6) {
			d.Verts = append(d.Verts, api.Vertex{ID: id(1+n/2, 1+n), Label: strings.Repeat("x", r.Intn(3)), Attr: r.Intn(3) - 1})
		}
		for n := range r.Intn(6) {
			d.Edges = append(d.Edges, api.Edge{ID: id(1+n/2, 1+n), Label: strings.Repeat("y", r.Intn(3)), Attr: r.Intn(3) - 1})
			for side := range 2 {
				v := &d.Verts[r.Intn(len(d.Verts))]
				v.Ring = ring.Turn(slices.Insert(v.Ring, r.Intn(len(v.Ring)+1), api.Dart{Edge: d.Edges[n].ID, Side: side}))
			}
		}
		if euler.Planar(d) {
			return d
		}
	}
}

// P8.1

func TestNum(t *testing.T) {
	cases := map[int]string{
		0:             "\x00\x00\x00\x00\x00\x00\x00\x00",
		1:             "\x00\x00\x00\x00\x00\x00\x00\x01",
		258:           "\x00\x00\x00\x00\x00\x00\x01\x02",
		-1:            "\xff\xff\xff\xff\xff\xff\xff\xff",
		-2:            "\xff\xff\xff\xff\xff\xff\xff\xfe",
		math.MaxInt:   "\x7f\xff\xff\xff\xff\xff\xff\xff",
		math.MinInt:   "\x80\x00\x00\x00\x00\x00\x00\x00",
		api.MaxAttr:   "\x00\x00\x01\x00\x00\x00\x00\x00",
		-api.MaxAttr:  "\xff\xff\xff\x00\x00\x00\x00\x00",
		1<<56 + 2<<48: "\x01\x02\x00\x00\x00\x00\x00\x00",
	}
	for x, want := range cases {
		if got := Num(nil, x); string(got) != want {
			t.Errorf("Num of %d is %x", x, got)
		}
		if got := Num([]byte("ab"), x); string(got) != "ab"+want {
			t.Errorf("Num of %d behind others is %x", x, got)
		}
		for _, rest := range []string{"", "r", want} {
			got, behind, ok := TakeNum([]byte(want + rest))
			if got != x || string(behind) != rest || !ok {
				t.Errorf("TakeNum of %x is %d, %x, %v", want+rest, got, behind, ok)
			}
		}
	}
	for n := range 8 {
		s := "1234567"[:n]
		if got, rest, ok := TakeNum([]byte(s)); got != 0 || string(rest) != s || ok {
			t.Errorf("TakeNum of %q is %d, %q, %v", s, got, rest, ok)
		}
	}
}

func TestText(t *testing.T) {
	for _, s := range []string{"", "a", "a b", "\x00\xff", strings.Repeat("x", 127), strings.Repeat("y", 128), strings.Repeat("z", 255)} {
		want := string([]byte{byte(len(s))}) + s
		if got := Text(nil, s); string(got) != want {
			t.Errorf("Text of %q is %q", s, got)
		}
		if got := Text([]byte("ab"), s); string(got) != "ab"+want {
			t.Errorf("Text of %q behind others is %q", s, got)
		}
		for _, rest := range []string{"", "r", want} {
			got, behind, ok := TakeText([]byte(want + rest))
			if got != s || string(behind) != rest || !ok {
				t.Errorf("TakeText of %q is %q, %q, %v", want+rest, got, behind, ok)
			}
		}
		for n := range len(want) {
			if got, rest, ok := TakeText([]byte(want[:n])); got != "" || string(rest) != want[:n] || ok {
				t.Errorf("TakeText of %q is %q, %q, %v", want[:n], got, rest, ok)
			}
		}
	}
	if got, rest, ok := TakeText(nil); got != "" || len(rest) != 0 || ok {
		t.Errorf("TakeText of nothing is %q, %q, %v", got, rest, ok)
	}
	Text(nil, strings.Repeat("x", 1000)) // not asked, but it ends
}

func TestNothingIsShared(t *testing.T) {
	whole := []byte("\x02bcdefghij")
	for name, put := range map[string]func([]byte) []byte{
		"Num":  func(b []byte) []byte { return Num(b, 5) },
		"Text": func(b []byte) []byte { return Text(b, "uv") },
		"TakeNum": func(b []byte) []byte {
			_, rest, _ := TakeNum(b)
			return rest
		},
		"TakeNum of less": func(b []byte) []byte {
			_, rest, _ := TakeNum(b[:5])
			return rest
		},
		"TakeText": func(b []byte) []byte {
			_, rest, _ := TakeText(b)
			return rest
		},
		"TakeText of less": func(b []byte) []byte {
			_, rest, _ := TakeText(b[:2])
			return rest
		},
	} {
		b := bytes.Clone(whole)
		out := put(b[:9])
		if !bytes.Equal(b, whole) {
			t.Errorf("%s changed what was handed in: %q", name, b)
		}
		was := string(out)
		clear(b)
		if string(out) != was {
			t.Errorf("%s: the answer changed with what was handed in", name)
		}
		b = bytes.Clone(whole)
		clear(put(b[:9]))
		_ = append(put(b[:9]), 1, 2, 3, 4, 5, 6, 7, 8, 9)
		if !bytes.Equal(b, whole) {
			t.Errorf("%s: what was handed in changed with the answer: %q", name, b)
		}
	}
}

// P8.2

func TestPut(t *testing.T) {
	if got, err := Put(drawing()); string(got) != drawn || err != api.OK {
		t.Errorf("%x, %d, not %x", got, err, drawn)
	}
	if got, err := Put(api.Diagram{}); string(got) != "\x00\x00" || err != api.OK {
		t.Errorf("of nothing: %x, %d", got, err)
	}
	d := api.Diagram{Verts: []api.Vertex{{ID: id(2, 258)}}}
	if got, err := Put(d); string(got) != "\x00\x01\x02\x00\x01\x02\x00\x00\x00\x00\x00\x00\x00\x00\x00\x00" || err != api.OK {
		t.Errorf("of a vertex: %x, %d", got, err)
	}
}

func TestPutOfWhatMayNotBe(t *testing.T) {
	cases := map[api.Errno]func(*api.Diagram){
		api.ErrBig:   func(d *api.Diagram) { d.Verts = make([]api.Vertex, 25) },
		api.ErrForm:  func(d *api.Diagram) { d.Edges = d.Edges[1:] },
		api.ErrLabel: func(d *api.Diagram) { d.Edges[0].Label = "\n" },
		api.ErrArg:   func(d *api.Diagram) { d.Verts[0].Attr = api.MaxAttr + 1 },
		api.ErrGenus: func(d *api.Diagram) {
			d.Verts[0].Ring = []api.Dart{dart(1, 7, 0), dart(2, 258, 0), dart(1, 7, 1), dart(2, 258, 1)}
			d.Verts[1].Ring = nil
		},
	}
	for want, change := range cases {
		d := drawing()
		change(&d)
		if got, err := Put(d); got != nil || err != want {
			t.Errorf("%x, %d, not %d", got, err, want)
		}
	}
}

func TestPutChangesNothing(t *testing.T) {
	d := drawing()
	b, _ := Put(d)
	clear(b)
	if !diagram.Same(d, drawing()) {
		t.Error("the diagram changed")
	}
}

func takesNone(t *testing.T, what string, s string) {
	t.Helper()
	d, err := Take([]byte(s))
	if err != api.ErrCorrupt || d.Verts != nil || d.Edges != nil {
		t.Errorf("%s: Take of %x is %v, %d", what, s, d, err)
	}
}

func TestTakeOfWhatIsNone(t *testing.T) {
	takesNone(t, "nothing", "")
	takesNone(t, "a byte", "\x00")
	takesNone(t, "a byte more", "\x00\x00\x00")
	for n := range len(drawn) {
		takesNone(t, "cut off", drawn[:n])
	}
	takesNone(t, "with a byte more", drawn+"\x00")
	takesNone(t, "two times", drawn+drawn)
	takesNone(t, "many edges", strings.Repeat("\xff", 100000))
	takesNone(t, "an edge without darts", "\x01\x01\x00\x00\x01\x00\x00\x00\x00\x00\x00\x00\x00\x00\x00")
	takesNone(t, "a dart of no edge", "\x00\x01\x02\x00\x01\x02\x00\x00\x00\x00\x00\x00\x00\x00\x00\x01\x00")
	swap := func(old, now string) string {
		if strings.Count(drawn, old) != 1 {
			t.Fatalf("%x is not there once", old)
		}
		return strings.Replace(drawn, old, now, 1)
	}
	takesNone(t, "a ring that is not turned", swap("\x03\x80\x01\x81", "\x03\x01\x80\x81"))
	takesNone(t, "a dart two times", swap("\x03\x80\x01\x81", "\x03\x80\x01\x01"))
	takesNone(t, "a dart of an edge that is not there", swap("\x03\x80\x01\x81", "\x03\x80\x01\x82"))
	takesNone(t, "a label that may not be", swap("~", "\x7f"))
	takesNone(t, "an attribute that may not be", swap("\x00\x00\x01\x00\x00\x00\x00\x00", "\x00\x00\x01\x00\x00\x00\x00\x01"))
	takesNone(t, "a name that may not be", swap("\x08\x10\x00\x00", "\x08\x10\x00\x01"))
	takesNone(t, "names that do not rise", swap("\x08\x10\x00\x00", "\x01\x00\x00\x01"))
	takesNone(t, "two loops that cross", "\x02"+
		"\x01\x00\x00\x01\x00\x00\x00\x00\x00\x00\x00\x00\x00"+"\x01\x00\x00\x02\x00\x00\x00\x00\x00\x00\x00\x00\x00"+
		"\x01"+"\x01\x00\x00\x01\x00\x00\x00\x00\x00\x00\x00\x00\x00"+"\x04\x00\x01\x80\x81")
}

// Of any bytes: what is taken is laid down as it was.
func TestTakeOfAnyBytes(t *testing.T) {
	r := rand.New(rand.NewSource(3))
	taken := 0
	try := func(b []byte) {
		was := bytes.Clone(b)
		d, err := Take(b)
		if !bytes.Equal(b, was) {
			t.Fatalf("%x is changed to %x", was, b)
		}
		if err != api.OK {
			takesNone(t, "any bytes", string(b))
			return
		}
		taken++
		if again, err := Put(d); !bytes.Equal(again, was) || err != api.OK {
			t.Errorf("%x is taken, and laid down as %x, %d", was, again, err)
		}
	}
	for i := range drawn {
		for turn := 1; turn < 256; turn++ {
			b := []byte(drawn)
			b[i] ^= byte(turn)
			try(b)
		}
	}
	for range 3000 {
		b, _ := Put(chance(r))
		for range 1 + r.Intn(3) {
			b[r.Intn(len(b))] = byte(r.Intn(4))
		}
		try(b)
	}
	if taken < 100 {
		t.Errorf("only %d were taken", taken)
	}
}

// P8.3

func TestWhatWasPutIsTaken(t *testing.T) {
	r := rand.New(rand.NewSource(4))
	all := []api.Diagram{{}, drawing(), most()}
	for range 500 {
		all = append(all, chance(r))
	}
	for _, d := range all {
		b, err := Put(d)
		if err != api.OK {
			t.Fatalf("%v: %d", d, err)
		}
		got, err := Take(b)
		clear(b)
		if err != api.OK || !diagram.Same(got, d) {
			t.Errorf("%v is taken as %v, %d", d, got, err)
		}
	}
}

func TestUnlikeBytes(t *testing.T) {
	r := rand.New(rand.NewSource(5))
	seen := map[string]api.Diagram{}
	for range 3000 {
		d := chance(r)
		b, _ := Put(d)
		if was, ok := seen[string(b)]; ok && !diagram.Same(d, was) {
			t.Errorf("%v and %v have the same bytes", d, was)
		}
		seen[string(b)] = d
	}
	if len(seen) < 500 {
		t.Errorf("only %d are unlike", len(seen))
	}
}
