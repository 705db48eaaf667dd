package ident

import (
	"bytes"
	"math"
	"testing"

	"tracery/api"
)

func id(site, n int) api.ID { return api.ID{Site: site, N: n} }

func dart(site, n, side int) api.Dart { return api.Dart{Edge: id(site, n), Side: side} }

// ints are numbers that a field may be given, the edges of each bound among them.
var ints = []int{math.MinInt, math.MinInt + 1, -256, -1, 0, 1, 2, 7, 8, 9, 255, 256, 257, 258, 65535, 65536, api.MaxCount - 1, api.MaxCount, api.MaxCount + 1, 1<<24 + 1, 1<<32 + 1, math.MaxInt - 1, math.MaxInt}

// names are those that may be, by rising order: of each site the least and the greatest count, and those at which a byte turns over.
func names() []api.ID {
	counts := []int{1, 2, 127, 128, 255, 256, 257, 258, 511, 512, 32768, 65535, 65536, 65537, 65536 + 258, 1<<19 - 1, 1 << 19, api.MaxCount - 1, api.MaxCount}
	var l []api.ID
	for site := 1; site <= api.MaxSites; site++ {
		for _, n := range counts {
			l = append(l, id(site, n))
		}
	}
	return l
}

// P1.1

func TestMay(t *testing.T) {
	for _, site := range ints {
		for _, n := range ints {
			want := site >= 1 && site <= 8 && n >= 1 && n <= 1<<20
			if May(id(site, n)) != want {
				t.Errorf("May(%d, %d) is %v", site, n, !want)
			}
		}
	}
	if May(api.ID{}) {
		t.Error("the zero name may be")
	}
}

func TestOrder(t *testing.T) {
	cases := []struct {
		a, b api.ID
		want int
	}{
		{id(1, 1), id(1, 1), 0},
		{id(1, 1), id(1, 2), -1},
		{id(1, 2), id(1, 1), 1},
		{id(1, 9), id(2, 1), -1},
		{id(2, 1), id(1, 9), 1},
		{id(8, api.MaxCount), id(8, api.MaxCount), 0},
		{api.ID{}, id(1, 1), -1},
		{api.ID{}, api.ID{}, 0},
		{id(math.MinInt, 0), id(math.MaxInt, 0), -1},
		{id(math.MaxInt, 0), id(math.MinInt, 0), 1},
		{id(1, math.MinInt), id(1, math.MaxInt), -1},
		{id(1, math.MaxInt), id(1, math.MinInt), 1},
		{id(-1, math.MaxInt), id(0, math.MinInt), -1},
	}
	for _, c := range cases {
		if got := Order(c.a, c.b); got != c.want {
			t.Errorf("Order(%v, %v) is %d", c.a, c.b, got)
		}
	}
}

func TestOrderOfAllNames(t *testing.T) {
	l := names()
	for i, a := range l {
		for j, b := range l {
			if got := Order(a, b); got != sign(i-j) {
				t.Errorf("Order(%v, %v) is %d", a, b, got)
			}
		}
	}
}

func sign(n int) int {
	switch {
	case n < 0:
		return -1
	case n > 0:
		return 1
	}
	return 0
}

func TestMayDart(t *testing.T) {
	for _, side := range ints {
		want := side == 0 || side == 1
		if MayDart(dart(1, 1, side)) != want || MayDart(dart(8, api.MaxCount, side)) != want {
			t.Errorf("side %d", side)
		}
		for _, x := range []api.ID{{}, id(0, 1), id(9, 1), id(1, 0), id(1, api.MaxCount+1), id(-1, -1)} {
			if MayDart(api.Dart{Edge: x, Side: side}) {
				t.Errorf("a dart of %v, side %d, may be", x, side)
			}
		}
	}
}

func TestOrderDart(t *testing.T) {
	cases := []struct {
		a, b api.Dart
		want int
	}{
		{dart(1, 1, 0), dart(1, 1, 0), 0},
		{dart(1, 1, 0), dart(1, 1, 1), -1},
		{dart(1, 1, 1), dart(1, 1, 0), 1},
		{dart(1, 1, 1), dart(1, 2, 0), -1},
		{dart(1, 2, 0), dart(1, 1, 1), 1},
		{dart(1, 2, 1), dart(2, 1, 0), -1},
		{dart(2, 1, 0), dart(1, 2, 1), 1},
		{api.Dart{}, dart(1, 1, 0), -1},
		{api.Dart{}, api.Dart{}, 0},
		{dart(1, 1, math.MinInt), dart(1, 1, math.MaxInt), -1},
		{dart(1, 1, math.MaxInt), dart(1, 1, math.MinInt), 1},
		{dart(math.MinInt, 0, 1), dart(math.MaxInt, 0, 0), -1},
	}
	for _, c := range cases {
		if got := OrderDart(c.a, c.b); got != c.want {
			t.Errorf("OrderDart(%v, %v) is %d", c.a, c.b, got)
		}
	}
}

func TestOther(t *testing.T) {
	cases := []struct{ d, want api.Dart }{
		{dart(3, 4, 0), dart(3, 4, 1)},
		{dart(3, 4, 1), dart(3, 4, 0)},
		{dart(3, 4, 2), dart(3, 4, -1)},
		{dart(0, -7, 0), dart(0, -7, 1)},
		{api.Dart{}, api.Dart{Side: 1}},
	}
	for _, c := range cases {
		if got := Other(c.d); got != c.want {
			t.Errorf("Other(%v) is %v", c.d, got)
		}
	}
}

// P1.2

func TestPut(t *testing.T) {
	cases := []struct {
		b    string
		x    api.ID
		want string
	}{
		{"", id(2, 258), "\x02\x00\x01\x02"},
		{"x", id(2, 65536+258), "x\x02\x01\x01\x02"},
		{"", id(1, 1), "\x01\x00\x00\x01"},
		{"ab", id(8, api.MaxCount), "ab\x08\x10\x00\x00"},
		{"", id(8, 255), "\x08\x00\x00\xff"},
		{"", id(8, 256), "\x08\x00\x01\x00"},
		{"", id(8, 65535), "\x08\x00\xff\xff"},
		{"", id(8, 65536), "\x08\x01\x00\x00"},
	}
	for _, c := range cases {
		if got := Put([]byte(c.b), c.x); string(got) != c.want {
			t.Errorf("Put(%q, %v) is %q", c.b, c.x, got)
		}
	}
	if got := Put(nil, id(2, 258)); string(got) != "\x02\x00\x01\x02" {
		t.Errorf("behind nil: %q", got)
	}
}

// A list with room behind its end is where a plain append would write into the caller's own.
func TestPutLeavesWhatIsHandedIn(t *testing.T) {
	whole := []byte("abcdefghij")
	out := Put(whole[:2], id(3, 5))
	if string(whole) != "abcdefghij" {
		t.Errorf("the list handed in is now %q", whole)
	}
	clear(out)
	if string(whole) != "abcdefghij" {
		t.Error("the answer shares memory with the list handed in")
	}
	one, two := Put(whole[:1], id(1, 1)), Put(whole[:1], id(2, 2))
	if string(one) != "a\x01\x00\x00\x01" || string(two) != "a\x02\x00\x00\x02" {
		t.Errorf("%q %q", one, two)
	}
}

// Of a name that may not be nothing is promised but an end.
func TestPutEnds(t *testing.T) {
	for _, site := range ints {
		for _, n := range ints {
			Put([]byte("b"), id(site, n))
		}
	}
}

func TestTake(t *testing.T) {
	cases := []struct {
		b    string
		x    api.ID
		rest string
	}{
		{"\x02\x00\x01\x02", id(2, 258), ""},
		{"\x02\x01\x01\x02\x07", id(2, 65536+258), "\x07"},
		{"\x01\x00\x00\x01\x01\x00\x00\x02", id(1, 1), "\x01\x00\x00\x02"},
		{"\x08\x10\x00\x00rest", id(8, api.MaxCount), "rest"},
		{"\x08\x0f\xff\xff", id(8, api.MaxCount-1), ""},
	}
	for _, c := range cases {
		x, rest, ok := Take([]byte(c.b))
		if x != c.x || string(rest) != c.rest || !ok {
			t.Errorf("Take(%q) is %v, %q, %v", c.b, x, rest, ok)
		}
	}
}

func TestTakeNone(t *testing.T) {
	wrong := []string{
		"", "\x01", "\x01\x00", "\x01\x00\x00",
		"\x00\x00\x00\x01", "\x09\x00\x00\x01", "\xff\x00\x00\x01",
		"\x01\x00\x00\x00", "\x01\x10\x00\x01", "\x01\xff\xff\xff",
		"\x00\x00\x00\x00", "\x00\x01\x00\x00\x01", "\x01\x00\x00\x00\x01",
	}
	for _, s := range wrong {
		x, rest, ok := Take([]byte(s))
		if x != (api.ID{}) || string(rest) != s || ok {
			t.Errorf("Take(%q) is %v, %q, %v", s, x, rest, ok)
		}
	}
	if x, rest, ok := Take(nil); x != (api.ID{}) || len(rest) != 0 || ok {
		t.Error("of nil:", x, rest, ok)
	}
}

func TestTakeSharesNothing(t *testing.T) {
	for _, s := range []string{"\x01\x00\x00\x01rest", "\x00\x00\x00\x01rest", "abc"} {
		b := []byte(s)
		_, rest, _ := Take(b)
		want := string(rest)
		clear(b)
		if string(rest) != want {
			t.Errorf("what is behind the name in %q changed with the list handed in", s)
		}
		b = []byte(s)
		_, rest, _ = Take(b)
		clear(rest)
		if string(b) != s {
			t.Errorf("the list handed in, %q, changed with the answer", s)
		}
	}
}

// P1.3

func TestNext(t *testing.T) {
	const most = api.MaxCount
	cases := []struct {
		l    []api.ID
		site int
		want api.ID
	}{
		{[]api.ID{id(1, 3), id(2, 9), id(1, 1)}, 1, id(1, 4)},
		{[]api.ID{id(1, 3), id(2, 9), id(1, 1)}, 2, id(2, 10)},
		{[]api.ID{id(1, 3), id(2, 9), id(1, 1)}, 3, id(3, 1)},
		{nil, 1, id(1, 1)},
		{nil, 8, id(8, 1)},
		{[]api.ID{id(1, 7), id(1, 7)}, 1, id(1, 8)},
		{[]api.ID{id(1, most-1)}, 1, id(1, most)},
		{[]api.ID{id(1, most)}, 1, api.ID{}},
		{[]api.ID{id(1, most), id(1, 2)}, 1, api.ID{}},
		{[]api.ID{id(2, most)}, 1, id(1, 1)},
		{[]api.ID{id(1, most+1), id(1, 2)}, 1, id(1, 3)},
		{[]api.ID{id(1, math.MaxInt), id(1, math.MinInt), id(1, 0), id(1, -5)}, 1, id(1, 1)},
		{[]api.ID{{}, id(9, 4), id(0, 4)}, 5, id(5, 1)},
	}
	for _, c := range cases {
		if got := Next(c.l, c.site); got != c.want {
			t.Errorf("Next(%v, %d) is %v", c.l, c.site, got)
		}
	}
}

func TestNextOfNoSite(t *testing.T) {
	for _, site := range ints {
		if site >= 1 && site <= 8 {
			continue
		}
		for _, l := range [][]api.ID{nil, {id(1, 3)}, {id(site, 3)}} {
			if got := Next(l, site); got != (api.ID{}) {
				t.Errorf("Next(%v, %d) is %v", l, site, got)
			}
		}
	}
}

func TestNextLeavesTheList(t *testing.T) {
	l := []api.ID{id(2, 5), id(1, 3), id(2, 1), id(9, 9)}
	Next(l[:3], 2)
	for i, want := range []api.ID{id(2, 5), id(1, 3), id(2, 1), id(9, 9)} {
		if l[i] != want {
			t.Errorf("place %d is now %v", i, l[i])
		}
	}
}

// A name that Next tells stands behind all of its site, and may be.
func TestNextIsNew(t *testing.T) {
	var l []api.ID
	for i := 0; i < 40; i++ {
		site := 1 + i*5%api.MaxSites
		x := Next(l, site)
		if !May(x) || x.Site != site {
			t.Fatalf("Next(%v, %d) is %v", l, site, x)
		}
		for _, y := range l {
			if y.Site == site && Order(y, x) != -1 {
				t.Errorf("%v is not ahead of %v", y, x)
			}
		}
		l = append(l, x)
	}
}

// P1.4

func TestWhatWasPutIsTaken(t *testing.T) {
	for _, x := range names() {
		for _, rest := range []string{"", "\x00", "\x01\x00\x00\x01"} {
			got, behind, ok := Take(append(Put(nil, x), rest...))
			if got != x || string(behind) != rest || !ok {
				t.Errorf("of %v and %q: %v, %q, %v", x, rest, got, behind, ok)
			}
		}
	}
}

func TestRowOfNames(t *testing.T) {
	var b []byte
	for _, x := range names() {
		b = Put(b, x)
	}
	for _, want := range names() {
		x, rest, ok := Take(b)
		if x != want || !ok {
			t.Fatalf("%v, %v in the stead of %v", x, ok, want)
		}
		b = rest
	}
	if len(b) != 0 {
		t.Errorf("%d bytes are left", len(b))
	}
}

func TestOtherOfOther(t *testing.T) {
	for _, side := range ints {
		d := dart(3, 4, side)
		if Other(Other(d)) != d {
			t.Errorf("side %d", side)
		}
	}
	for _, side := range []int{0, 1} {
		d := dart(3, 4, side)
		if !MayDart(Other(d)) || Other(d) == d || Other(d).Edge != d.Edge {
			t.Errorf("side %d", side)
		}
	}
}

func TestBytesRiseAsNamesDo(t *testing.T) {
	l := names()
	for _, a := range l {
		for _, b := range l {
			if bytes.Compare(Put(nil, a), Put(nil, b)) != Order(a, b) {
				t.Errorf("%v and %v", a, b)
			}
		}
	}
}
