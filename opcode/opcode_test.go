package opcode

import (
	"bytes"
	"math/rand"
	"slices"
	"strings"
	"testing"

	"tracery/api"
	"tracery/op"
)

func id(site, n int) api.ID { return api.ID{Site: site, N: n} }

type sample struct {
	o    api.Op
	want string
}

// samples are operations that may be, and their bytes.
func samples() []sample {
	after := func(n, side int) api.Dart { return api.Dart{Edge: id(3, n), Side: side} }
	edge := func(a, b api.Dart) api.Op {
		return api.Op{Kind: api.AddEdge, ID: id(1, 2), A: api.Corner{Vert: id(4, 5), After: a}, B: api.Corner{Vert: id(6, 7), After: b}}
	}
	const head = "\x03\x01\x00\x00\x02"
	return []sample{
		{api.Op{Kind: api.AddVertex, ID: id(2, 258)}, "\x01\x02\x00\x01\x02"},
		{api.Op{Kind: api.RemoveVertex, ID: id(8, api.MaxCount)}, "\x02\x08\x10\x00\x00"},
		{edge(api.Dart{}, api.Dart{}), head + "\x04\x00\x00\x05\x00" + "\x06\x00\x00\x07\x00"},
		{edge(after(9, 0), api.Dart{}), head + "\x04\x00\x00\x05\x01\x03\x00\x00\x09" + "\x06\x00\x00\x07\x00"},
		{edge(api.Dart{}, after(9, 1)), head + "\x04\x00\x00\x05\x00" + "\x06\x00\x00\x07\x02\x03\x00\x00\x09"},
		{edge(after(1, 1), after(1, 0)), head + "\x04\x00\x00\x05\x02\x03\x00\x00\x01" + "\x06\x00\x00\x07\x01\x03\x00\x00\x01"},
		{api.Op{Kind: api.RemoveEdge, ID: id(1, 1)}, "\x04\x01\x00\x00\x01"},
		{api.Op{Kind: api.SplitEdge, ID: id(1, 2), New: id(3, 4), Other: id(5, 6)}, "\x05\x01\x00\x00\x02\x03\x00\x00\x04\x05\x00\x00\x06\x00"},
		{api.Op{Kind: api.SplitEdge, ID: id(1, 2), New: id(3, 4), Other: id(5, 6), N: 3}, "\x05\x01\x00\x00\x02\x03\x00\x00\x04\x05\x00\x00\x06\x03"},
		{api.Op{Kind: api.SmoothVertex, ID: id(1, 2), Other: id(3, 4)}, "\x06\x01\x00\x00\x02\x03\x00\x00\x04"},
		{api.Op{Kind: api.SetLabel, ID: id(1, 2)}, "\x07\x01\x00\x00\x02\x00\x00"},
		{api.Op{Kind: api.SetLabel, ID: id(1, 2), OfEdge: true, Text: "0123456789abcdef"}, "\x07\x01\x00\x00\x02\x01\x100123456789abcdef"},
		{api.Op{Kind: api.SetAttr, ID: id(1, 2), OfEdge: true, N: 258}, "\x08\x01\x00\x00\x02\x01\x00\x00\x00\x00\x00\x00\x01\x02"},
		{api.Op{Kind: api.SetAttr, ID: id(1, 2), N: -api.MaxAttr}, "\x08\x01\x00\x00\x02\x00\xff\xff\xff\x00\x00\x00\x00\x00"},
	}
}

// edits are rows of one to six of the samples, and their bytes.
func edits() ([]api.Edit, []string) {
	all := samples()
	var l []api.Edit
	var bytes []string
	for from := range all {
		for size := 1; size <= api.MaxGroup; size++ {
			var e api.Edit
			b := string([]byte{byte(size)})
			for i := range size {
				s := all[(from+i)%len(all)]
				e.Ops, b = append(e.Ops, s.o), b+s.want
			}
			l, bytes = append(l, e), append(bytes, b)
		}
	}
	return l, bytes
}

// P10.1

func TestPut(t *testing.T) {
	l, want := edits()
	for i, e := range l {
		for _, ahead := range []string{"", "ab"} {
			if got, err := Put([]byte(ahead), e); string(got) != ahead+want[i] || err != api.OK {
				t.Errorf("%v behind %q: %x, %d, not %x", e, ahead, got, err, want[i])
			}
		}
	}
	if got, err := Put(nil, api.Edit{Ops: []api.Op{{Kind: api.AddVertex, ID: id(2, 258)}}}); string(got) != "\x01\x01\x02\x00\x01\x02" || err != api.OK {
		t.Errorf("%x, %d", got, err)
	}
}

func TestPutOfWhatMayNotBe(t *testing.T) {
	good := api.Op{Kind: api.AddVertex, ID: id(1, 1)}
	cases := []struct {
		ops  []api.Op
		want api.Errno
	}{
		{nil, api.ErrBig},
		{slices.Repeat([]api.Op{good}, 7), api.ErrBig},
		{[]api.Op{{}}, api.ErrArg},
		{[]api.Op{good, {Kind: api.AddVertex, ID: id(9, 1)}}, api.ErrArg},
		{[]api.Op{good, {Kind: api.AddVertex, ID: id(1, 1), N: 3}}, api.ErrArg},
		{[]api.Op{{Kind: api.SetLabel, ID: id(1, 1), Text: "\n"}, {}}, api.ErrLabel},
		{[]api.Op{{Kind: api.SplitEdge, ID: id(1, 1), New: id(1, 1), Other: id(1, 1), N: 4}}, api.ErrArg},
	}
	for i, c := range cases {
		e := api.Edit{Ops: c.ops}
		if got, err := Put([]byte("ab"), e); got != nil || err != c.want || err != op.MayEdit(e) {
			t.Errorf("case %d: %x, %d, not %d", i, got, err, c.want)
		}
	}
}

func TestTake(t *testing.T) {
	l, bytes := edits()
	for i, e := range l {
		for _, behind := range []string{"", "\x00", "rest", bytes[0]} {
			got, rest, err := Take([]byte(bytes[i] + behind))
			if !op.Same(got, e) || string(rest) != behind || err != api.OK {
				t.Errorf("%x: %v, %q, %d, not %v", bytes[i], got, rest, err, e)
			}
			got, err = Whole([]byte(bytes[i] + behind))
			if behind == "" && (!op.Same(got, e) || err != api.OK) {
				t.Errorf("Whole of %x: %v, %d, not %v", bytes[i], got, err, e)
			}
			if behind != "" && (got.Ops != nil || err != api.ErrCorrupt) {
				t.Errorf("Whole of %x with %q behind it: %v, %d", bytes[i], behind, got, err)
			}
		}
	}
}

func takesNone(t *testing.T, s string) {
	t.Helper()
	if got, rest, err := Take([]byte(s)); got.Ops != nil || string(rest) != s || err != api.ErrCorrupt {
		t.Errorf("Take of %x: %v, %x, %d", s, got, rest, err)
	}
	if got, err := Whole([]byte(s)); got.Ops != nil || err != api.ErrCorrupt {
		t.Errorf("Whole of %x: %v, %d", s, got, err)
	}
}

func TestTakeOfWhatIsNone(t *testing.T) {
	_, all := edits()
	for _, b := range all {
		for n := range len(b) {
			takesNone(t, b[:n])
		}
	}
	const vertex = "\x01\x01\x00\x00\x01"
	const split = "\x05\x01\x00\x00\x02\x03\x00\x00\x04\x05\x00\x00\x06"
	for _, s := range []string{
		"\x00",
		"\x00" + vertex,
		"\x07" + strings.Repeat(vertex, 7),
		"\x02" + vertex,
		"\xff" + strings.Repeat(vertex, 255),
		"\x01\x00\x01\x00\x00\x01",
		"\x01\x09\x01\x00\x00\x01",
		"\x01\x01\x00\x00\x00\x01",
		"\x01\x01\x09\x00\x00\x01",
		"\x01\x01\x01\x00\x00\x00",
		"\x01\x01\x01\x10\x00\x01",
		"\x01" + split + "\x04",
		"\x01" + split + "\xff",
		"\x01\x03\x01\x00\x00\x02" + "\x04\x00\x00\x05\x03\x03\x00\x00\x09" + "\x06\x00\x00\x07\x00",
		"\x01\x03\x01\x00\x00\x02" + "\x04\x00\x00\x05\x01\x00\x00\x00\x00" + "\x06\x00\x00\x07\x00",
		"\x01\x03\x01\x00\x00\x02" + "\x04\x00\x00\x05\x00" + "\x06\x00\x00\x07\xff\x03\x00\x00\x09",
		"\x01\x03\x01\x00\x00\x02" + "\x00\x00\x00\x05\x00" + "\x06\x00\x00\x07\x00",
		"\x01\x07\x01\x00\x00\x02\x02\x01x",
		"\x01\x07\x01\x00\x00\x02\xff\x00",
		"\x01\x07\x01\x00\x00\x02\x00\x01\x1f",
		"\x01\x07\x01\x00\x00\x02\x00\x110123456789abcdefg",
		"\x01\x07\x01\x00\x00\x02\x00\xff" + strings.Repeat("x", 255),
		"\x01\x08\x01\x00\x00\x02\x02\x00\x00\x00\x00\x00\x00\x01\x02",
		"\x01\x08\x01\x00\x00\x02\x00\x00\x00\x01\x00\x00\x00\x00\x01",
		"\x01\x08\x01\x00\x00\x02\x00\x80\x00\x00\x00\x00\x00\x00\x00",
		strings.Repeat("\xff", 10000),
		strings.Repeat("\x00", 10000),
	} {
		takesNone(t, s)
	}
}

// Of any bytes: what is taken is laid down as it was.
func TestTakeOfAnyBytes(t *testing.T) {
	r := rand.New(rand.NewSource(10))
	_, all := edits()
	taken := 0
	for range 30000 {
		b := append([]byte(all[r.Intn(len(all))]), make([]byte, r.Intn(3))...)
		for range 1 + r.Intn(3) {
			b[r.Intn(len(b))] = byte(r.Intn(256) >> r.Intn(8))
		}
		was := string(b)
		e, rest, err := Take(b)
		if string(b) != was {
			t.Fatalf("%x is changed", was)
		}
		if err != api.OK {
			takesNone(t, was)
			continue
		}
		taken++
		if again, err := Put(nil, e); string(again)+string(rest) != was || err != api.OK {
			t.Errorf("%x is taken, and laid down as %x, %x, %d", was, again, rest, err)
		}
	}
	if taken < 1000 {
		t.Errorf("only %d were taken", taken)
	}
}

func TestNothingIsShared(t *testing.T) {
	whole := []byte("ab\x01\x01\x01\x00\x00\x01rest")
	e := api.Edit{Ops: []api.Op{{Kind: api.AddVertex, ID: id(1, 2)}}}
	for name, call := range map[string]func([]byte) []byte{
		"Put": func(b []byte) []byte {
			out, _ := Put(b[:2], e)
			return out
		},
		"Take": func(b []byte) []byte {
			_, rest, _ := Take(b[2:])
			return rest
		},
		"Take of none": func(b []byte) []byte {
			_, rest, _ := Take(b[:4])
			return rest
		},
	} {
		b := bytes.Clone(whole)
		out := call(b)
		if !bytes.Equal(b, whole) {
			t.Errorf("%s changed what was handed in: %q", name, b)
		}
		was := string(out)
		clear(b)
		if string(out) != was {
			t.Errorf("%s: the answer changed with what was handed in", name)
		}
		b = bytes.Clone(whole)
		clear(call(b))
		_ = append(call(b), "many bytes more"...)
		if !bytes.Equal(b, whole) {
			t.Errorf("%s: what was handed in changed with the answer: %q", name, b)
		}
	}
}

// P10.2

func TestRowOfEdits(t *testing.T) {
	l, _ := edits()
	var b []byte
	for _, e := range l {
		b, _ = Put(b, e)
	}
	for _, want := range l {
		got, rest, err := Take(b)
		if !op.Same(got, want) || err != api.OK {
			t.Fatalf("%v, %d, not %v", got, err, want)
		}
		b = rest
	}
	if len(b) != 0 {
		t.Errorf("%d bytes are left", len(b))
	}
}
