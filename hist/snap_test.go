package hist

import (
	"bytes"
	"math"
	"math/rand"
	"slices"
	"strings"
	"testing"

	"tracery/api"
	"tracery/edit"
	"tracery/fold"
	"tracery/pack"
)

func dart(n, side int) api.Dart { return api.Dart{Edge: id(n), Side: side} }

// many are n darts that are gone, rising.
func many(n int) []api.Gone {
	var l []api.Gone
	for i := range n {
		g := api.Gone{Dart: dart(1+i/2, i%2)}
		if i%3 > 0 {
			g.To = api.Dart{Edge: api.ID{Site: 8, N: api.MaxCount - i}, Side: i % 2}
		}
		l = append(l, g)
	}
	return l
}

const (
	vertex = "\x00\x01\x01\x00\x00\x01\x00\x00\x00\x00\x00\x00\x00\x00\x00\x00"
	two    = "\x00\x00\x00\x00\x00\x00\x01\x02"
	size   = "\x00\x00\x00\x00\x00\x00\x00\x10"
	goneA  = "\x01\x00\x00\x02\x01\x00"
	goneB  = "\x01\x00\x00\x03\x00\x01\x02\x00\x00\x04"
	goneC  = "\x01\x00\x00\x03\x01\x02\x08\x10\x00\x00"
)

// snap is a state with a vertex, and three darts that are gone.
func snap() api.State {
	return api.State{
		D: api.Diagram{Verts: []api.Vertex{{ID: id(1)}}},
		Gone: []api.Gone{
			{Dart: dart(2, 1)},
			{Dart: dart(3, 0), To: api.Dart{Edge: api.ID{Site: 2, N: 4}}},
			{Dart: dart(3, 1), To: api.Dart{Edge: api.ID{Site: 8, N: api.MaxCount}, Side: 1}},
		},
	}
}

// P18.2

func TestPutSnap(t *testing.T) {
	for _, c := range []struct {
		n    int
		s    api.State
		want string
	}{
		{0, edit.Empty(), "\x00\x00\x00\x00\x00\x00\x00\x00" + "\x00\x00\x00\x00\x00\x00\x00\x02" + "\x00\x00"},
		{1 << 30, edit.Empty(), "\x00\x00\x00\x00\x40\x00\x00\x00" + "\x00\x00\x00\x00\x00\x00\x00\x02" + "\x00\x00"},
		{258, snap(), two + size + vertex + goneA + goneB + goneC},
	} {
		if got, err := PutSnap(c.n, c.s); string(got) != c.want || err != api.OK {
			t.Errorf("%d, %v: %x, %d, not %x", c.n, c.s, got, err, c.want)
		}
		n, s, err := TakeSnap([]byte(c.want))
		if n != c.n || !same(s, c.s) || err != api.OK {
			t.Errorf("%x: %d, %v, %d", c.want, n, s, err)
		}
	}
}

func TestPutSnapOfWhatMayNotBe(t *testing.T) {
	puts := func(what string, n int, s api.State, want api.Errno) {
		t.Helper()
		got, err := PutSnap(n, s)
		if (want == api.OK) != (got != nil) || err != want {
			t.Errorf("%s: %x, %d, not %d", what, got, err, want)
		}
	}
	for n, want := range map[int]api.Errno{math.MinInt: api.ErrArg, -1: api.ErrArg, 0: api.OK, 1<<30 + 1: api.ErrArg, 1 << 30: api.OK, math.MaxInt: api.ErrArg} {
		puts("a number", n, snap(), want)
	}
	puts("400 gone", 1, api.State{Gone: many(400)}, api.OK)
	puts("401 gone", 1, api.State{Gone: many(401)}, api.ErrArg)
	for _, d := range []api.Dart{{}, {Side: 1}, dart(1, 2), dart(1, -1), dart(0, 0), dart(api.MaxCount+1, 0), {Edge: api.ID{Site: 9, N: 1}}} {
		puts("a dart that may not be", 1, api.State{Gone: []api.Gone{{Dart: d}}}, api.ErrArg)
		want := api.ErrArg
		if d == (api.Dart{}) {
			want = api.OK
		}
		puts("a dart told that may not be", 1, api.State{Gone: []api.Gone{{Dart: dart(1, 0), To: d}}}, want)
	}
	s := snap()
	s.Gone[0], s.Gone[1] = s.Gone[1], s.Gone[0]
	puts("darts that do not rise", 1, s, api.ErrArg)
	s = snap()
	s.Gone[1].Dart, s.Gone[2].Dart = s.Gone[2].Dart, s.Gone[1].Dart
	puts("sides that do not rise", 1, s, api.ErrArg)
	s = snap()
	s.Gone[2].Dart = s.Gone[1].Dart
	puts("a dart two times", 1, s, api.ErrArg)

	for want, change := range map[api.Errno]func(*api.Diagram){
		api.ErrBig:   func(d *api.Diagram) { d.Verts = make([]api.Vertex, 25) },
		api.ErrForm:  func(d *api.Diagram) { d.Edges = []api.Edge{{ID: id(1)}} },
		api.ErrLabel: func(d *api.Diagram) { d.Verts[0].Label = "\n" },
		api.ErrGenus: func(d *api.Diagram) {
			d.Edges = []api.Edge{{ID: id(1)}, {ID: id(2)}}
			d.Verts[0].Ring = []api.Dart{dart(1, 0), dart(2, 0), dart(1, 1), dart(2, 1)}
		},
	} {
		s := snap()
		change(&s.D)
		puts("a diagram that may not be", 1, s, want)
		puts("a diagram that may not be, and a number", -1, s, api.ErrArg)
		s.Gone[0].Dart.Side = 2
		puts("a diagram that may not be, and a dart", 1, s, api.ErrArg)
	}
	s = snap()
	s.D.Verts[0].Attr = api.MaxAttr + 1
	puts("an attribute that may not be", 1, s, api.ErrArg)
}

func takesNone(t *testing.T, what, b string) {
	t.Helper()
	if n, s, err := TakeSnap([]byte(b)); n != 0 || !same(s, api.State{}) || s.Gone != nil || err != api.ErrCorrupt {
		t.Errorf("%s: TakeSnap of %.60x is %d, %v, %d", what, b, n, s, err)
	}
}

func TestTakeSnapOfWhatIsNone(t *testing.T) {
	const head = two + size + vertex
	for n := range len(head) {
		takesNone(t, "cut off", head[:n])
	}
	for n := 1; n < len(goneB); n++ {
		takesNone(t, "cut off in what is gone", head+goneB[:n])
	}
	takesNone(t, "a byte more", head+"\x00")
	takesNone(t, "darts that do not rise", head+goneB+goneA)
	takesNone(t, "a dart two times", head+goneA+goneA)
	takesNone(t, "a number below 0", "\xff\xff\xff\xff\xff\xff\xff\xff"+size+vertex)
	takesNone(t, "a number too great", "\x00\x00\x00\x00\x40\x00\x00\x01"+size+vertex)
	takesNone(t, "a size below 0", two+"\xff\xff\xff\xff\xff\xff\xff\xf0"+vertex)
	takesNone(t, "the least size", two+"\x80\x00\x00\x00\x00\x00\x00\x00"+vertex)
	takesNone(t, "the greatest size", two+"\x7f\xff\xff\xff\xff\xff\xff\xff"+vertex)
	takesNone(t, "a size one less", two+"\x00\x00\x00\x00\x00\x00\x00\x0f"+vertex)
	takesNone(t, "a size one more", two+"\x00\x00\x00\x00\x00\x00\x00\x11"+vertex+goneA)
	takesNone(t, "a diagram that is none", two+size+strings.Replace(vertex, "\x01\x01", "\x01\x09", 1))
	takesNone(t, "no size", two)
	for _, s := range []string{
		"\x00\x00\x00\x02\x01\x00", "\x09\x00\x00\x02\x01\x00", "\x01\x00\x00\x00\x01\x00", "\x01\x10\x00\x01\x01\x00", "\x01\x00\x00\x02\x02\x00", "\x01\x00\x00\x02\xff\x00",
		"\x01\x00\x00\x03\x00\x03\x02\x00\x00\x04", "\x01\x00\x00\x03\x00\x01\x00\x00\x00\x00", "\x01\x00\x00\x03\x00\x01\x09\x00\x00\x04", "\x01\x00\x00\x03\x00\xff\x02\x00\x00\x04",
	} {
		takesNone(t, "a dart that may not be", head+s)
	}
	b, _ := PutSnap(1, api.State{Gone: many(400)})
	takesNone(t, "401 gone", string(b)+"\x08\x00\x00\x01\x00\x00")
	takesNone(t, "much too much", strings.Repeat("\x00", 1<<20))
	takesNone(t, "much gone", head+strings.Repeat(goneA, 1<<16))
}

func TestTakeSnapOfAnyBytes(t *testing.T) {
	r := rand.New(rand.NewSource(24))
	good := two + size + vertex + goneA + goneB + goneC
	taken := 0
	for range 20000 {
		b := []byte(good)
		for range 1 + r.Intn(2) {
			b[r.Intn(len(b))] = byte(r.Intn(256) >> r.Intn(8))
		}
		was := bytes.Clone(b)
		n, s, err := TakeSnap(b)
		if !bytes.Equal(b, was) {
			t.Fatalf("%x is changed", was)
		}
		if err != api.OK {
			takesNone(t, "any bytes", string(b))
			continue
		}
		taken++
		if again, err := PutSnap(n, s); !bytes.Equal(again, b) || err != api.OK {
			t.Errorf("%x is taken, and laid down as %x, %d", b, again, err)
		}
	}
	if taken < 1000 {
		t.Errorf("only %d were taken", taken)
	}
}

// P18.3

func TestWhatWasPutIsTaken(t *testing.T) {
	r := rand.New(rand.NewSource(25))
	for range 200 {
		var l []api.Edit
		for range r.Intn(60) {
			l = append(l, chance(r))
		}
		n, s := r.Intn(1<<30), fold.All(edit.Empty(), l)
		b, err := PutSnap(n, s)
		if err != api.OK {
			t.Fatalf("%v: %d", s, err)
		}
		m, got, err := TakeSnap(b)
		clear(b)
		if m != n || !same(got, s) || err != api.OK {
			t.Errorf("%d, %v is taken as %d, %v, %d", n, s, m, got, err)
		}
	}
	s := api.State{Gone: many(400)}
	b, _ := PutSnap(7, s)
	if _, got, err := TakeSnap(b); !slices.Equal(got.Gone, s.Gone) || err != api.OK {
		t.Errorf("with 400 gone: %d", err)
	}
	d, _ := pack.Put(snap().D)
	if string(d) != vertex {
		t.Errorf("%x", d)
	}
}
