package desk

import (
	"bytes"
	"hash/crc32"
	"math"
	"math/rand"
	"strconv"
	"strings"
	"testing"

	"tracery/api"
	"tracery/collab"
	"tracery/script"
)

func id(n int) api.ID { return api.ID{Site: 1, N: n} }

func newVertex(n int) api.Edit {
	return api.Edit{Ops: []api.Op{{Kind: api.AddVertex, ID: id(n)}}}
}

func newEdge(n, from, to int) api.Edit {
	return api.Edit{Ops: []api.Op{{Kind: api.AddEdge, ID: id(n), A: api.Corner{Vert: id(from)}, B: api.Corner{Vert: id(to)}}}}
}

// drawing has steps of each kind, and some that are errors.
func drawing() []api.Step {
	round := api.Step{Kind: api.StRound}
	return []api.Step{
		{Kind: api.StEdit, Site: 1, Edit: newVertex(1)},
		{Kind: api.StJoin, Site: 1},
		{Kind: api.StJoin, Site: 2},
		round, round,
		{Kind: api.StEdit, Site: 1, Edit: newVertex(1)},
		{Kind: api.StEdit, Site: 1, Edit: newVertex(2)},
		{Kind: api.StEdit, Site: 1, Edit: newEdge(1, 1, 2)},
		{Kind: api.StLook, Site: 1},
		{Kind: api.StUndo, Site: 1},
		{Kind: api.StRedo, Site: 1},
		{Kind: api.StRedo, Site: 1},
		{Kind: api.StLook},
		{Kind: api.StDouble, N: 1},
		{Kind: api.StTurn, N: 1, At: 3},
		{Kind: api.StDeliver, N: 1},
		{Kind: api.StDrop, N: 0},
		{Kind: api.StTick},
		round, round, round,
		{Kind: api.StLook},
		{Kind: api.StLook, Site: 2},
		{Kind: api.StEvict, Site: 2},
		{Kind: api.StLook, Site: 3},
		{Kind: 13},
	}
}

// P24.1

func TestRun(t *testing.T) {
	got := Run(collab.New(2), drawing())
	c := collab.New(2)
	if len(got) != len(drawing()) {
		t.Fatalf("%d answers", len(got))
	}
	for i, s := range drawing() {
		want := c.Do(s)
		if got[i].Code != want.Code || got[i].N != want.N || got[i].M != want.M || !bytes.Equal(got[i].Diagram, want.Diagram) {
			t.Errorf("%+v: %+v, not %+v", s, got[i], want)
		}
	}
	if got[0].Code != api.ErrJoined || got[24].Code != api.ErrSite || got[25].Code != api.ErrArg || len(got[21].Diagram) != 45 || !bytes.Equal(got[21].Diagram, got[22].Diagram) {
		t.Errorf("%+v", got)
	}
	if l := Run(collab.New(1), nil); len(l) != 0 {
		t.Errorf("of no steps: %+v", l)
	}
	// What one script did the next one finds.
	c = collab.New(1)
	Run(c, []api.Step{{Kind: api.StJoin, Site: 1}})
	if l := Run(c, []api.Step{{Kind: api.StJoin, Site: 1}}); len(l) != 1 || l[0].N != 2 {
		t.Errorf("%+v", l)
	}
}

func TestShow(t *testing.T) {
	cases := []struct {
		l    []api.Answer
		want string
	}{
		{nil, ""},
		{[]api.Answer{{N: 2}}, "0 2 0\n"},
		{[]api.Answer{{Code: api.ErrScript}}, "240 0 0\n"},
		{[]api.Answer{{N: 3, M: 4, Diagram: []byte("123456789")}}, "0 3 4 9 3421780262\n"},
		{[]api.Answer{{Diagram: []byte{}}}, "0 0 0\n"},
		{[]api.Answer{{Diagram: []byte{0}}}, "0 0 0 1 3523407757\n"},
		{[]api.Answer{{Code: -1, N: math.MinInt, M: math.MaxInt}, {Code: 7}, {M: 1, Diagram: []byte{0xff}}}, "-1 -9223372036854775808 9223372036854775807\n7 0 0\n0 0 1 1 4278190080\n"},
	}
	for _, c := range cases {
		if got := Show(c.l); got != c.want {
			t.Errorf("%+v: %q, not %q", c.l, got, c.want)
		}
	}
	d := []byte("123456789")
	Show([]api.Answer{{Diagram: d}})
	if string(d) != "123456789" {
		t.Error("the answer changed")
	}
}

// P24.2

func TestPlay(t *testing.T) {
	s, err := script.Print(drawing())
	if err != api.OK {
		t.Fatal(err)
	}
	for _, sites := range []int{math.MinInt, 0, 1, 2, 3, 8, 9, math.MaxInt} {
		want := Show(Run(collab.New(sites), drawing()))
		if got, n, err := Play(sites, s); got != want || n != 0 || err != api.OK {
			t.Errorf("of %d sites: %q, %d, %d, not %q", sites, got, n, err, want)
		}
	}
	if got, n, err := Play(1, ""); got != "" || n != 0 || err != api.OK {
		t.Errorf("of nothing: %q, %d, %d", got, n, err)
	}
	// The last look of the server and that of the client: the same diagram, of as many bytes, with the same sum.
	got, _, _ := Play(2, s)
	l := strings.Split(got, "\n")
	d := Run(collab.New(2), drawing())[21].Diagram
	want := "0 5 0 " + strconv.Itoa(len(d)) + " " + strconv.FormatUint(uint64(crc32.ChecksumIEEE(d)), 10)
	if len(l) != len(drawing())+1 || l[21] != want || l[22] != want {
		t.Errorf("%q, not %q", l, want)
	}
}

func TestPlayOfWhatIsNone(t *testing.T) {
	s, _ := script.Print(drawing()[:3])
	for _, c := range []struct {
		s    string
		line int
		err  api.Errno
	}{
		{s + "x", 4, api.ErrScript},
		{s + "\n", 4, api.ErrScript},
		{"\n" + s, 1, api.ErrScript},
		{s[:len(s)-1], 3, api.ErrScript},
		{strings.Repeat("\n", 2049), 0, api.ErrBig},
		{strings.Repeat("0", 65537), 0, api.ErrBig},
	} {
		if got, n, err := Play(2, c.s); got != "" || n != c.line || err != c.err {
			t.Errorf("%.40q: %q, %d, %d, not %d, %d", c.s, got, n, err, c.line, c.err)
		}
	}
}

// P24.3

func TestAnyScript(t *testing.T) {
	r := rand.New(rand.NewSource(34))
	played := 0
	for range 60 {
		var l []api.Step
		for range r.Intn(200) {
			s := api.Step{Kind: r.Intn(14), Site: r.Intn(5) - r.Intn(2), N: r.Intn(7) - 1, At: r.Intn(30) - 1}
			if r.Intn(2) == 0 {
				s.Kind = []int{api.StJoin, api.StEdit, api.StRound, api.StLook}[r.Intn(4)]
			}
			if s.Kind == api.StEdit {
				s.Edit = newVertex(1 + r.Intn(5))
				if r.Intn(2) == 0 {
					s.Edit = newEdge(1+r.Intn(5), 1+r.Intn(5), 1+r.Intn(5))
				}
			}
			l = append(l, s)
		}
		s, err := script.Print(l)
		if err != api.OK {
			t.Fatal(err)
		}
		b := []byte(s)
		for range r.Intn(3) {
			if len(b) > 0 {
				b[r.Intn(len(b))] = "0123456789abcdef\ng"[r.Intn(18)]
			}
		}
		_, line, bad := script.Parse(string(b))
		got, n, err := Play(4, string(b))
		if err != bad || n != line || err != api.OK && got != "" {
			t.Fatalf("%q: %q, %d, %d", b, got, n, err)
		}
		if err == api.OK {
			played++
			if lines := strings.Count(got, "\n"); lines != len(l) {
				t.Errorf("%d lines of %d steps", lines, len(l))
			}
			if again, _, _ := Play(4, string(b)); again != got {
				t.Error("another time it is another")
			}
		}
	}
	if played < 20 {
		t.Errorf("only %d were played", played)
	}
}

// The greatest scripts: they end.
func TestLongScripts(t *testing.T) {
	join := func(site int) api.Step { return api.Step{Kind: api.StJoin, Site: site} }
	round := api.Step{Kind: api.StRound}
	var busy []api.Step
	for site := 1; site <= 8; site++ {
		busy = append(busy, join(site))
	}
	for n := range 980 {
		s := api.Step{Kind: api.StDouble, N: n}
		if n >= 490 {
			s = round
		}
		busy = append(busy, s)
	}
	var edits []api.Step
	edits = append(edits, join(1), join(2), round, round)
	for n := range 600 {
		edits = append(edits, api.Step{Kind: api.StEdit, Site: 1 + n%2, Edit: newVertex(1 + n%30)})
		if n%8 == 7 {
			edits = append(edits, round, round, api.Step{Kind: api.StLook})
		}
	}
	for i, l := range [][]api.Step{busy, edits} {
		s, err := script.Print(l)
		if err != api.OK || len(s) > api.MaxScript {
			t.Fatalf("script %d: %d bytes, %d", i, len(s), err)
		}
		if got, _, err := Play(8, s); strings.Count(got, "\n") != len(l) || err != api.OK {
			t.Errorf("script %d: %d", i, err)
		}
	}
}
