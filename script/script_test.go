package script

import (
	"bytes"
	"encoding/hex"
	"math"
	"math/rand"
	"slices"
	"strings"
	"testing"

	"tracery/api"
	"tracery/op"
	"tracery/opcode"
)

func id(n int) api.ID { return api.ID{Site: 1, N: n} }

func newVertex(n int) api.Edit {
	return api.Edit{Ops: []api.Op{{Kind: api.AddVertex, ID: id(n)}}}
}

func same(a, b api.Step) bool {
	return a.Kind == b.Kind && a.Site == b.Site && a.N == b.N && a.At == b.At && op.Same(a.Edit, b.Edit)
}

const (
	vertex  = "010101000001"
	nought  = "0000000000000000"
	minus   = "ffffffffffffffff"
	round   = "000000000000000b" + nought + nought + nought
	edits   = "0000000000000002" + "0000000000000001" + nought + nought + vertex
	deliver = "0000000000000006" + nought + "0000000000000102" + minus
)

type sample struct {
	t    api.Step
	line string
}

func samples() []sample {
	return []sample{
		{api.Step{Kind: api.StRound}, round},
		{api.Step{Kind: api.StEdit, Site: 1, Edit: newVertex(1)}, edits},
		{api.Step{Kind: api.StDeliver, N: 258, At: -1}, deliver},
		{api.Step{}, nought + nought + nought + nought},
		{api.Step{Kind: math.MinInt, Site: math.MaxInt, N: -2, At: 1}, "8000000000000000" + "7fffffffffffffff" + "fffffffffffffffe" + "0000000000000001"},
		{api.Step{Kind: 99, Edit: api.Edit{Ops: []api.Op{newVertex(1).Ops[0], {Kind: api.SetLabel, ID: id(2), Text: "ab"}}}}, "0000000000000063" + nought + nought + nought + "02" + "0101000001" + "0701000002" + "00" + "026162"},
	}
}

// P23.1

func TestPutAndTake(t *testing.T) {
	for _, s := range samples() {
		want, _ := hex.DecodeString(s.line)
		if got, err := Put(s.t); !bytes.Equal(got, want) || err != api.OK {
			t.Errorf("%+v: %x, %d, not %x", s.t, got, err, want)
		}
		was := bytes.Clone(want)
		got, err := Take(want)
		if !same(got, s.t) || err != api.OK {
			t.Errorf("%x: %+v, %d", want, got, err)
		}
		if !bytes.Equal(want, was) {
			t.Errorf("%x is changed", was)
		}
		clear(want)
		if !same(got, s.t) {
			t.Error("what was taken changed with the bytes")
		}
	}
	if got, err := Put(api.Step{Kind: api.StRound, Edit: api.Edit{Ops: []api.Op{}}}); len(got) != 32 || err != api.OK {
		t.Errorf("with no operations: %x, %d", got, err)
	}
}

// badEdits may not be, each for its error.
func badEdits() map[api.Errno]api.Edit {
	return map[api.Errno]api.Edit{
		api.ErrBig:   {Ops: slices.Repeat(newVertex(1).Ops, 7)},
		api.ErrArg:   {Ops: []api.Op{newVertex(1).Ops[0], {}}},
		api.ErrLabel: {Ops: []api.Op{{Kind: api.SetLabel, ID: id(1), Text: "\n"}}},
	}
}

func TestPutOfWhatMayNotBe(t *testing.T) {
	for want, e := range badEdits() {
		for _, kind := range []int{api.StEdit, api.StRound, 99} {
			if got, err := Put(api.Step{Kind: kind, Edit: e}); got != nil || err != want {
				t.Errorf("%v: %x, %d, not %d", e, got, err, want)
			}
		}
	}
}

// wrong are bytes, as digits, that are no step.
func wrong() []string {
	l := []string{
		round + "00", round + "0100", round + "01010100000100", round + "0101010000", edits + "00", edits[:len(edits)-2], edits + vertex,
		round + "010001000001", round + "010901000001", round + "010100000001", round + "010101000000", round + "020101000001",
		round + "07" + strings.Repeat("0101000001", 7), round + "0107010000010001" + "0a",
		strings.Repeat("ff", 32) + "ff", strings.Repeat("00", 33),
	}
	for n := range 32 {
		l = append(l, round[:2*n])
	}
	return l
}

func TestTakeOfWhatIsNone(t *testing.T) {
	for _, s := range wrong() {
		b, err := hex.DecodeString(s)
		if err != nil {
			t.Fatal(err)
		}
		if got, err := Take(b); !same(got, api.Step{}) || got.Edit.Ops != nil || err != api.ErrScript {
			t.Errorf("%x: %+v, %d", b, got, err)
		}
	}
	if _, err := Take(bytes.Repeat([]byte{1}, 1<<16)); err != api.ErrScript {
		t.Errorf("much too much: %d", err)
	}
}

func TestTakeOfAnyBytes(t *testing.T) {
	r := rand.New(rand.NewSource(32))
	taken := 0
	for range 5000 {
		b, _ := hex.DecodeString(edits)
		for range 1 + r.Intn(2) {
			b[r.Intn(len(b))] = byte(r.Intn(256) >> r.Intn(8))
		}
		got, err := Take(b)
		if err != api.OK {
			if _, bad := opcode.Whole(b[32:]); bad == api.OK || err != api.ErrScript || !same(got, api.Step{}) {
				t.Errorf("%x: %+v, %d", b, got, err)
			}
			continue
		}
		taken++
		if again, err := Put(got); !bytes.Equal(again, b) || err != api.OK {
			t.Errorf("%x is taken, and laid down as %x, %d", b, again, err)
		}
	}
	if taken < 1000 {
		t.Errorf("only %d were taken", taken)
	}
}

// P23.2

func parses(t *testing.T, s string, want ...api.Step) {
	t.Helper()
	if got, n, err := Parse(s); n != 0 || err != api.OK || !slices.EqualFunc(got, want, same) {
		t.Errorf("%.80q: %+v, %d, %d, not %+v", s, got, n, err, want)
	}
}

func fails(t *testing.T, s string, line int, want api.Errno) {
	t.Helper()
	if got, n, err := Parse(s); got != nil || n != line || err != want {
		t.Errorf("%.80q: %+v, %d, %d, not %d, %d", s, got, n, err, line, want)
	}
}

func TestParse(t *testing.T) {
	parses(t, "")
	var script string
	var all []api.Step
	for _, s := range samples() {
		parses(t, s.line+"\n", s.t)
		script, all = script+s.line+"\n", append(all, s.t)
		parses(t, script, all...)
	}
}

func TestParseOfWhatIsNone(t *testing.T) {
	const good = round + "\n"
	lines := []string{"", " ", round + " ", " " + round, round[:63], round + "0", "g" + round[1:], strings.ToUpper(round), round[:62] + "0B", round + "\r", "#", round + "é", "\x00" + round[1:], round[:62] + "/0", round[:62] + ":0", round[:62] + "`0"}
	for _, s := range append(lines, wrong()...) {
		fails(t, s+"\n", 1, api.ErrScript)
		fails(t, s+"\n"+good, 1, api.ErrScript)
		fails(t, good+s+"\n"+good, 2, api.ErrScript)
		fails(t, good+good+s+"\n", 3, api.ErrScript)
		fails(t, good+s+"\n"+good+"x\n", 2, api.ErrScript)
		if s != "" {
			fails(t, s, 1, api.ErrScript)
			fails(t, good+s, 2, api.ErrScript)
		}
	}
	// What stands behind the last newline is none, though it were a step.
	fails(t, round, 1, api.ErrScript)
	fails(t, good+good+edits, 3, api.ErrScript)
	fails(t, "\n", 1, api.ErrScript)
	fails(t, "\n\n", 1, api.ErrScript)
}

func TestParseOfTooMuch(t *testing.T) {
	fails(t, strings.Repeat("\n", 2048), 1, api.ErrScript)
	fails(t, strings.Repeat("\n", 2049), 0, api.ErrBig)
	fails(t, strings.Repeat("x", 65536), 1, api.ErrScript)
	fails(t, strings.Repeat("x", 65537), 0, api.ErrBig)
	fails(t, strings.Repeat("\n", 65537), 0, api.ErrBig)
	fails(t, strings.Repeat("x", 1<<20), 0, api.ErrBig)
	const line = round + "\n"
	var all []api.Step
	for range 1008 {
		all = append(all, api.Step{Kind: api.StRound})
	}
	script := strings.Repeat(line, 1008)
	parses(t, script, all...)
	fails(t, script+strings.Repeat("0", 65536-len(script)), 1009, api.ErrScript)
	fails(t, script+line, 0, api.ErrBig)
}

func TestPrint(t *testing.T) {
	var steps []api.Step
	want := ""
	prints := func() {
		t.Helper()
		if got, err := Print(steps); got != want || err != api.OK {
			t.Errorf("%+v: %q, %d, not %q", steps, got, err, want)
		}
	}
	prints()
	for _, s := range samples() {
		steps, want = append(steps, s.t), want+s.line+"\n"
		prints()
	}
	steps, want = slices.Repeat([]api.Step{{Kind: api.StRound}}, 2048), strings.Repeat(round+"\n", 2048)
	prints()
	for _, l := range [][]api.Step{append(steps, api.Step{}), slices.Repeat([]api.Step{{Edit: badEdits()[api.ErrArg]}}, 2049)} {
		if got, err := Print(l); got != "" || err != api.ErrBig {
			t.Errorf("of %d steps: %.80q, %d", len(l), got, err)
		}
	}
	for want, e := range badEdits() {
		for _, other := range badEdits() {
			l := []api.Step{{Kind: api.StRound}, {Edit: e}, {Edit: other}}
			if got, err := Print(l); got != "" || err != want {
				t.Errorf("%v: %q, %d, not %d", l, got, err, want)
			}
		}
	}
}

// P23.3

func TestParseOfPrint(t *testing.T) {
	r := rand.New(rand.NewSource(33))
	for range 200 {
		var l []api.Step
		for range r.Intn(30) {
			s := samples()[r.Intn(6)].t
			s.N, s.At = r.Int()-r.Int(), r.Intn(9)-4
			l = append(l, s)
		}
		s, err := Print(l)
		if err != api.OK {
			t.Fatal(err)
		}
		parses(t, s, l...)
		got, _, _ := Parse(s)
		for _, x := range got {
			clear(x.Edit.Ops)
		}
		got, _, _ = Parse(s)
		if again, err := Print(got); again != s || err != api.OK {
			t.Errorf("%q is printed as %q, %d", s, again, err)
		}
	}
}
