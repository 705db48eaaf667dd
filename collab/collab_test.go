package collab

import (
	"bytes"
	"fmt"
	"math"
	"math/rand"
	"slices"
	"strings"
	"testing"

	"tracery/api"
	"tracery/diagram"
	"tracery/edit"
	"tracery/euler"
	"tracery/fold"
	"tracery/op"
	"tracery/pack"
)

func id(site, n int) api.ID { return api.ID{Site: site, N: n} }

func one(o api.Op) api.Edit { return api.Edit{Ops: []api.Op{o}} }

func newVertex(site, n int) api.Edit { return one(api.Op{Kind: api.AddVertex, ID: id(site, n)}) }

func step(kind, site int) api.Step { return api.Step{Kind: kind, Site: site} }

func edits(site int, e api.Edit) api.Step {
	return api.Step{Kind: api.StEdit, Site: site, Edit: e}
}

func frame(kind, n int) api.Step { return api.Step{Kind: kind, N: n} }

var round = api.Step{Kind: api.StRound}

func same(a, b api.Answer) bool {
	return a.Code == b.Code && a.N == b.N && a.M == b.M && bytes.Equal(a.Diagram, b.Diagram)
}

// answers asks for the answer of a step.
func answers(t *testing.T, c *Collab, s api.Step, want api.Answer) {
	t.Helper()
	if got := c.Do(s); !same(got, want) {
		t.Fatalf("%+v: %+v, not %+v", s, got, want)
	}
}

func ok(t *testing.T, c *Collab, s api.Step, n int) {
	t.Helper()
	answers(t, c, s, api.Answer{N: n})
}

func refuses(t *testing.T, c *Collab, s api.Step, want api.Errno) {
	t.Helper()
	was := digest(c)
	answers(t, c, s, api.Answer{Code: want})
	if digest(c) != was {
		t.Fatalf("%+v tells %d, and changes something", s, want)
	}
}

// digest is all that a collab tells.
func digest(c *Collab) string {
	s := c.Server()
	l := fmt.Sprintf("%d %x\n%+v\n%+v\n%v\n", s.Last(), fold.Bytes(s.State()), s.Log(), s.Tick(), c.Calm())
	for i := range c.Net().Len() {
		f, err := c.Net().At(i)
		l += fmt.Sprintf("%+v %d\n", f, err)
	}
	l += fmt.Sprintln(c.Net().Tally())
	for site := 1; c.Client(site) != nil; site++ {
		who := c.Client(site)
		came, base := who.Base()
		issued, lost, epoch := who.Counts()
		l += fmt.Sprintf("%d: %d %d; %d %x %+v %d %d %d %+v\n", site, s.Epoch(site), s.Got(site), came, fold.Bytes(base), who.Pending(), issued, lost, epoch, who.Tick())
	}
	return l
}

// dropAll drops what is on its way.
func dropAll(c *Collab) {
	for c.Net().Len() > 0 {
		c.Do(frame(api.StDrop, 0))
	}
}

func look(t *testing.T, c *Collab, site, n, m int, edits ...api.Edit) {
	t.Helper()
	d, err := pack.Put(fold.All(edit.Empty(), edits).D)
	if err != api.OK {
		t.Fatal(err)
	}
	answers(t, c, step(api.StLook, site), api.Answer{N: n, M: m, Diagram: d})
}

// P22.1

func TestExample(t *testing.T) {
	c := New(1)
	ok(t, c, step(api.StJoin, 1), 1)
	ok(t, c, round, 2) // the Hello, and again by the Tick
	ok(t, c, round, 3) // the Welcome two times, and the Hello
	ok(t, c, edits(1, newVertex(1, 1)), 1)
	ok(t, c, round, 3) // a Welcome, the edit, and again by the Tick
	look(t, c, 0, 1, 0, newVertex(1, 1))
	look(t, c, 1, 0, 1, newVertex(1, 1))
	ok(t, c, round, 5) // the entry, two FrAcks, and by the Ticks the entry and the edit
	look(t, c, 1, 1, 0, newVertex(1, 1))
}

func TestSitesAreHeld(t *testing.T) {
	for sites, want := range map[int]int{math.MinInt: 1, -1: 1, 0: 1, 1: 1, 2: 2, 8: 8, 9: 8, math.MaxInt: 8} {
		c := New(sites)
		for _, site := range []int{math.MinInt, -1, 0, want + 1, 9, math.MaxInt} {
			if c.Client(site) != nil {
				t.Errorf("New(%d) has a client of %d", sites, site)
			}
			for _, kind := range []int{api.StJoin, api.StEdit, api.StUndo, api.StRedo, api.StEvict} {
				refuses(t, c, step(kind, site), api.ErrSite)
			}
			for _, kind := range []int{api.StTick, api.StLook} {
				if site != 0 {
					refuses(t, c, step(kind, site), api.ErrSite)
				}
			}
		}
		for site := 1; site <= want; site++ {
			ok(t, c, step(api.StJoin, site), 1)
			if f, err := c.Net().At(site - 1); err != api.OK || f.From != site {
				t.Errorf("New(%d): the Hello of %d is of %d", sites, site, f.From)
			}
		}
	}
}

func TestOfAKindThatIsNone(t *testing.T) {
	c := New(2)
	for _, kind := range []int{math.MinInt, -1, 0, 13, 14, 255, 257, math.MaxInt} {
		for _, site := range []int{-1, 0, 1, 9} {
			refuses(t, c, step(kind, site), api.ErrArg)
		}
	}
}

// What is not of its kind is not asked.
func TestOtherFieldsOfAStep(t *testing.T) {
	c := New(2)
	ok(t, c, api.Step{Kind: api.StJoin, Site: 1, N: 99, At: -1, Edit: api.Edit{Ops: make([]api.Op, 9)}}, 1)
	ok(t, c, api.Step{Kind: api.StRound, Site: 99, N: -1, At: 5}, 2)
	ok(t, c, api.Step{Kind: api.StDeliver, Site: 99, N: 0, At: 77}, 0)
	ok(t, c, api.Step{Kind: api.StDouble, Site: -1, N: 0}, 0)
	ok(t, c, api.Step{Kind: api.StTurn, Site: 9, N: 0, At: 3}, 0)
	ok(t, c, api.Step{Kind: api.StDrop, Site: 9, N: 0, At: 3}, 0)
	ok(t, c, api.Step{Kind: api.StTick, Site: 0, N: 5}, 0)
}

func TestWhatAClientDoes(t *testing.T) {
	c := New(2)
	refuses(t, c, edits(1, newVertex(1, 1)), api.ErrJoined)
	refuses(t, c, step(api.StUndo, 1), api.ErrNothing)
	refuses(t, c, step(api.StRedo, 1), api.ErrNothing)
	ok(t, c, step(api.StJoin, 1), 1)
	ok(t, c, step(api.StJoin, 1), 2)
	ok(t, c, frame(api.StDrop, 0), 0)
	ok(t, c, frame(api.StDeliver, 0), 1)
	ok(t, c, frame(api.StDeliver, 0), 0)
	for n := 1; n <= 4; n++ {
		ok(t, c, edits(1, newVertex(1, n)), n)
	}
	refuses(t, c, edits(1, newVertex(1, 1)), api.ErrThere)
	refuses(t, c, edits(1, api.Edit{}), api.ErrBig)
	ok(t, c, step(api.StUndo, 1), 5)
	ok(t, c, step(api.StUndo, 1), 6)
	ok(t, c, step(api.StRedo, 1), 7)
	ok(t, c, step(api.StRedo, 1), 8)
	refuses(t, c, step(api.StRedo, 1), api.ErrNothing)
	refuses(t, c, step(api.StUndo, 1), api.ErrFull)
	if c.Net().Len() != 8 {
		t.Errorf("%d are on their way", c.Net().Len())
	}
	look(t, c, 1, 0, 8, newVertex(1, 1), newVertex(1, 2), newVertex(1, 3), newVertex(1, 4))
	look(t, c, 0, 0, 0)
	look(t, c, 2, 0, 0)
}

func TestTick(t *testing.T) {
	c := New(2)
	for site := range 3 {
		ok(t, c, step(api.StTick, site), 0)
	}
	c.Do(step(api.StJoin, 1))
	c.Do(step(api.StJoin, 2))
	ok(t, c, step(api.StTick, 2), 1)
	c.Do(round)
	c.Do(round)
	dropAll(c)
	c.Do(edits(2, newVertex(2, 1)))
	c.Do(edits(2, newVertex(2, 2)))
	ok(t, c, step(api.StTick, 2), 2)
	ok(t, c, step(api.StTick, 0), 0)
	ok(t, c, frame(api.StDeliver, 0), 3)
	ok(t, c, frame(api.StDeliver, 0), 3)
	ok(t, c, step(api.StTick, 0), 4)
	ok(t, c, step(api.StTick, 1), 0)
	if got := c.Net().Len(); got != 2+6+4 {
		t.Errorf("%d are on their way", got)
	}
}

func TestDeliver(t *testing.T) {
	c := New(2)
	refuses(t, c, frame(api.StDeliver, 0), api.ErrArg)
	refuses(t, c, frame(api.StDeliver, -1), api.ErrArg)
	c.Do(step(api.StJoin, 1))
	c.Do(step(api.StJoin, 2))
	ok(t, c, frame(api.StDouble, 1), 0)
	refuses(t, c, frame(api.StDeliver, 3), api.ErrArg)
	ok(t, c, frame(api.StDeliver, 1), 1)
	if c.Server().Epoch(1) != 0 || c.Server().Epoch(2) != 1 {
		t.Error("another frame was delivered")
	}
	// Now there are the Hellos of 1 and of 2, and a Welcome of 2.
	ok(t, c, frame(api.StDeliver, 2), 0)
	if _, _, epoch := c.Client(2).Counts(); epoch != 1 {
		t.Errorf("epoch %d", epoch)
	}
	ok(t, c, api.Step{Kind: api.StTurn, N: 0, At: 4}, 0)
	answers(t, c, frame(api.StDeliver, 0), api.Answer{Code: api.ErrCorrupt})
	if c.Net().Len() != 1 {
		t.Errorf("%d are on their way", c.Net().Len())
	}
	// An answer that is an error: the frame is not on its way any more.
	ok(t, c, frame(api.StDeliver, 0), 1)
	answers(t, c, frame(api.StDeliver, 0), api.Answer{Code: api.ErrOrder})
	if c.Net().Len() != 0 {
		t.Errorf("%d are on their way", c.Net().Len())
	}
}

func TestDeliverToNobody(t *testing.T) {
	c := New(2)
	c.Net().Send([]api.Frame{{Kind: api.FrAck, To: 3}, {Kind: api.FrHello, From: 3, Seq: 1}, {Kind: api.FrAck, From: 3, To: 1}})
	answers(t, c, frame(api.StDeliver, 0), api.Answer{Code: api.ErrSite})
	ok(t, c, frame(api.StDeliver, 0), 1)
	answers(t, c, frame(api.StDeliver, 0), api.Answer{Code: api.ErrSite})
	answers(t, c, frame(api.StDeliver, 0), api.Answer{Code: api.ErrSite})
	if c.Net().Len() != 0 || c.Server().Epoch(3) != 1 {
		t.Errorf("%d are on their way, epoch %d", c.Net().Len(), c.Server().Epoch(3))
	}
}

func TestWhatBecomesOfFrames(t *testing.T) {
	c := New(1)
	c.Do(step(api.StJoin, 1))
	for _, kind := range []int{api.StDrop, api.StDouble, api.StTurn} {
		refuses(t, c, frame(kind, 1), api.ErrArg)
		refuses(t, c, frame(kind, -1), api.ErrArg)
	}
	refuses(t, c, api.Step{Kind: api.StTurn, N: 0, At: 19}, api.ErrArg)
	refuses(t, c, api.Step{Kind: api.StTurn, N: 0, At: -1}, api.ErrArg)
	ok(t, c, api.Step{Kind: api.StTurn, N: 0, At: 18}, 0)
	ok(t, c, frame(api.StDouble, 0), 0)
	ok(t, c, api.Step{Kind: api.StTurn, N: 1, At: 18}, 0)
	if _, err := c.Net().At(0); err != api.ErrCorrupt {
		t.Error(err)
	}
	if _, err := c.Net().At(1); err != api.OK {
		t.Error(err)
	}
	ok(t, c, frame(api.StDrop, 0), 0)
	ok(t, c, frame(api.StDeliver, 0), 1)
	for c.Net().Len() < api.MaxNet {
		ok(t, c, frame(api.StDouble, 0), 0)
	}
	refuses(t, c, frame(api.StDouble, 0), api.ErrFull)
}

func TestEvict(t *testing.T) {
	c := New(2)
	refuses(t, c, step(api.StEvict, 1), api.ErrJoined)
	c.Do(step(api.StJoin, 1))
	c.Do(round)
	ok(t, c, step(api.StEvict, 1), 0)
	refuses(t, c, step(api.StEvict, 1), api.ErrJoined)
	if c.Server().Epoch(1) != 0 {
		t.Error("it is joined")
	}
}

func TestRound(t *testing.T) {
	c := New(3)
	ok(t, c, round, 0)
	for site := 1; site <= 3; site++ {
		c.Do(step(api.StJoin, site))
	}
	d := c.Clone()
	ok(t, c, round, 6)
	// The same, step by step.
	for site := range 4 {
		d.Do(step(api.StTick, site))
	}
	for range 6 {
		d.Do(frame(api.StDeliver, 0))
	}
	if digest(c) != digest(d) {
		t.Errorf("%s, not %s", digest(c), digest(d))
	}
	if c.Net().Len() != 6 {
		t.Errorf("%d are on their way", c.Net().Len())
	}
	// The server's own go ahead of the clients', and those of the lesser sites ahead of the others'.
	c.Do(round)
	dropAll(c)
	for site := 1; site <= 3; site++ {
		c.Do(edits(site, newVertex(site, 1)))
	}
	for range 3 {
		c.Do(frame(api.StDeliver, 0))
	}
	dropAll(c)
	ticks := 0
	for site := range 4 {
		a := c.Clone().Do(step(api.StTick, site))
		ticks += a.N
	}
	d = c.Clone()
	answers(t, c, round, api.Answer{N: ticks})
	for site := range 4 {
		d.Do(step(api.StTick, site))
	}
	for range ticks {
		d.Do(frame(api.StDeliver, 0))
	}
	if ticks != 12 || digest(c) != digest(d) {
		t.Errorf("%d: %s, not %s", ticks, digest(c), digest(d))
	}
	// Errors of what is delivered in a round are not told.
	for range 3 {
		c.Do(frame(api.StDouble, 0))
	}
	c.Do(api.Step{Kind: api.StTurn, N: 0, At: 0})
	if a := c.Do(round); a.Code != api.OK || a.N < 4 {
		t.Errorf("%+v", a)
	}
}

func TestRoundDeliversTheFirst(t *testing.T) {
	c := New(1)
	c.Net().Send([]api.Frame{{Kind: api.FrHello, From: 1, Seq: 2}, {Kind: api.FrHello, From: 1, Seq: 1}, {Kind: api.FrHello, From: 1, Seq: 3}})
	ok(t, c, round, 3)
	var seqs []int
	for i := range c.Net().Len() {
		f, _ := c.Net().At(i)
		seqs = append(seqs, f.Seq)
	}
	if !slices.Equal(seqs, []int{2, 3}) {
		t.Errorf("welcomed are %v", seqs)
	}
}

// P22.2

func TestItsOwn(t *testing.T) {
	c := New(2)
	if c.Server() == nil || c.Server() != c.Server() || c.Net() != c.Net() || c.Client(2) == nil || c.Client(2) != c.Client(2) || c.Client(1) == c.Client(2) {
		t.Error("they are not its own")
	}
	c.Client(1).Join()
	if a := c.Do(step(api.StTick, 1)); a.N != 1 {
		t.Error("its client is another")
	}
	c.Net().Drop(0)
	if a := c.Do(frame(api.StDrop, 0)); a.Code != api.ErrArg {
		t.Error("its net is another")
	}
	c.Server().Take(api.Frame{Kind: api.FrHello, From: 2, Seq: 1})
	ok(t, c, step(api.StEvict, 2), 0)
}

func TestCalm(t *testing.T) {
	calm := func(c *Collab, want bool) {
		t.Helper()
		if c.Calm() != want {
			t.Errorf("Calm is %v: %s", !want, digest(c))
		}
	}
	c := New(2)
	calm(c, true)
	c.Do(step(api.StJoin, 1))
	calm(c, true)
	c.Do(frame(api.StDeliver, 0))
	calm(c, true) // the client does not know its epoch yet
	c.Do(frame(api.StDeliver, 0))
	calm(c, true)
	c.Do(edits(1, newVertex(1, 1)))
	calm(c, false)
	d := c.Clone()
	d.Do(step(api.StEvict, 1))
	calm(d, true) // it is not joined any more
	d = c.Clone()
	d.Do(step(api.StJoin, 1))
	d.Do(frame(api.StDeliver, 1))
	calm(d, true) // the epoch that is joined is another one
	c.Do(frame(api.StDeliver, 0))
	calm(c, false)
	c.Do(frame(api.StDeliver, 0))
	calm(c, true) // though the FrAck is on its way yet
	// What another site did, and did not come: nothing is pending, but it has less.
	c.Do(step(api.StJoin, 2))
	for c.Net().Len() > 0 {
		c.Do(frame(api.StDeliver, 0))
	}
	c.Do(edits(2, newVertex(2, 1)))
	c.Do(frame(api.StDeliver, 0))
	calm(c, false)
	c.Do(frame(api.StDeliver, 1))
	calm(c, false)
	c.Do(frame(api.StDeliver, 0))
	calm(c, true)
}

func TestCloneGoesItsOwnWay(t *testing.T) {
	c := New(2)
	for _, s := range []api.Step{step(api.StJoin, 1), round, round, edits(1, newVertex(1, 1)), edits(1, newVertex(1, 2)), step(api.StUndo, 1), frame(api.StDouble, 0), frame(api.StDeliver, 1)} {
		c.Do(s)
	}
	was := digest(c)
	d := c.Clone()
	if digest(d) != was {
		t.Fatal("the clone is not the same")
	}
	act := func(c *Collab) string {
		l := ""
		for _, s := range []api.Step{frame(api.StTurn, 0), step(api.StRedo, 1), step(api.StJoin, 2), round, round, round, edits(2, newVertex(2, 1)), step(api.StEvict, 1), round, step(api.StLook, 2)} {
			l += fmt.Sprintln(c.Do(s))
		}
		return l + digest(c)
	}
	told := act(d)
	if digest(c) != was {
		t.Fatal("what was done of the clone is seen")
	}
	e := c.Clone()
	if act(c) != told || digest(e) != was {
		t.Fatal("what was done is seen by the clone, or comes to something else")
	}
}

func TestLookIsTheCallersOwn(t *testing.T) {
	c := New(1)
	c.Do(step(api.StJoin, 1))
	c.Do(round)
	c.Do(round)
	e := newVertex(1, 1)
	c.Do(edits(1, e))
	clear(e.Ops)
	for range 2 {
		a := c.Do(step(api.StLook, 1))
		if len(a.Diagram) != 16 {
			t.Errorf("%x", a.Diagram)
		}
		clear(a.Diagram)
	}
	look(t, c, 1, 0, 1, newVertex(1, 1))
}

// P22.3

// chance is an edit of few names; many can be done in the diagram.
func chance(r *rand.Rand, site int, d api.Diagram) api.Edit {
	names := diagram.Names(d)
	fresh := func() api.ID { return id(1+r.Intn(3), 1+r.Intn(12)) }
	old := func() api.ID {
		if len(names) > 0 && r.Intn(8) > 0 {
			return names[r.Intn(len(names))]
		}
		return fresh()
	}
	var e api.Edit
	for range 1 + r.Intn(5)/4 {
		o := api.Op{Kind: []int{1, 1, 1, 2, 3, 3, 3, 3, 3, 4, 4, 5, 6, 6, 7, 8}[r.Intn(16)], ID: old()}
		switch o.Kind {
		case api.AddVertex:
			o.ID = fresh()
		case api.AddEdge:
			o.ID = fresh()
			o.A = api.Corner{Vert: old(), After: api.Dart{Edge: old(), Side: r.Intn(2)}}
			o.B = api.Corner{Vert: old(), After: api.Dart{Edge: old(), Side: r.Intn(2)}}
		case api.SplitEdge:
			o.New, o.Other, o.N = fresh(), fresh(), r.Intn(4)
		case api.SmoothVertex:
			o.Other = old()
		case api.SetLabel:
			o.OfEdge, o.Text = r.Intn(2) == 0, strings.Repeat("x", r.Intn(3))
		case api.SetAttr:
			o.OfEdge, o.N = r.Intn(2) == 0, r.Intn(5)-2
		}
		e.Ops = append(e.Ops, o)
	}
	return e
}

// folds asks for what must hold of all at each time.
func folds(t *testing.T, c *Collab, accepted []int) {
	t.Helper()
	s := c.Server()
	log := s.Log()
	var all []api.Edit
	serialised := make([]int, len(accepted))
	for _, e := range log {
		all = append(all, e.Edit)
		serialised[e.Site]++
	}
	if s.Last() != len(all) || !fold.Equal(s.State(), fold.All(edit.Empty(), all)) || euler.May(s.State().D) != api.OK {
		t.Fatalf("the server's state is not the fold of its log: %s", digest(c))
	}
	for site := 1; c.Client(site) != nil; site++ {
		who := c.Client(site)
		came, base := who.Base()
		if came > len(all) || !fold.Equal(base, fold.All(edit.Empty(), all[:came])) {
			t.Fatalf("the base of %d is not the fold of %d: %s", site, came, digest(c))
		}
		pending := who.Pending()
		if len(pending) > api.MaxWindow || !fold.Equal(who.View(), fold.All(base, pending)) || euler.May(who.View().D) != api.OK {
			t.Fatalf("the view of %d is not what is pending upon the base: %s", site, digest(c))
		}
		// Each that was accepted is serialised, pending, or lost: some that are serialised are pending yet.
		_, lost, _ := who.Counts()
		if n := accepted[site]; n > serialised[site]+len(pending)+lost || n < serialised[site]+lost {
			t.Fatalf("of %d %d were accepted, %d serialised, %d are pending, %d lost", site, n, serialised[site], len(pending), lost)
		}
	}
	if c.Net().Len() > api.MaxNet {
		t.Fatalf("%d are on their way", c.Net().Len())
	}
}

// rests asks for rounds till all is calm, and that all, who are joined, have the same then.
func rests(t *testing.T, c *Collab, accepted []int) {
	t.Helper()
	for rounds := 0; rounds < 8 || !c.Calm(); rounds++ {
		c.Do(round)
		if rounds > 60 {
			t.Fatalf("it does not come to rest: %s", digest(c))
		}
	}
	folds(t, c, accepted)
	server := c.Do(step(api.StLook, 0))
	for site := 1; c.Client(site) != nil; site++ {
		_, lost, epoch := c.Client(site).Counts()
		if epoch == 0 || epoch != c.Server().Epoch(site) {
			t.Fatalf("%d is not joined", site)
		}
		if a := c.Do(step(api.StLook, site)); !same(a, server) {
			t.Fatalf("of %d %+v, not %+v", site, a, server)
		}
		serialised := 0
		for _, e := range c.Server().Log() {
			if e.Site == site {
				serialised++
			}
		}
		if accepted[site] != serialised+lost {
			t.Fatalf("of %d %d were accepted, %d serialised, %d lost", site, accepted[site], serialised, lost)
		}
	}
}

func TestAnySteps(t *testing.T) {
	r := rand.New(rand.NewSource(30))
	codes := map[int]map[api.Errno]int{}
	serialised := 0
	for range 12 {
		sites := 1 + r.Intn(4)
		c := New(sites)
		accepted := make([]int, sites+1)
		for range r.Intn(2) {
			for site := 1; site <= sites; site++ {
				c.Do(step(api.StJoin, site))
			}
			c.Do(round)
			c.Do(round)
		}
		for range 600 {
			s := api.Step{Kind: []int{1, 2, 2, 2, 2, 2, 2, 3, 3, 4, 5, 6, 6, 6, 6, 6, 6, 6, 6, 6, 6, 7, 7, 8, 9, 11}[r.Intn(26)], Site: 1 + r.Intn(sites)}
			if s.Kind == api.StJoin && r.Intn(4) > 0 {
				continue
			}
			if r.Intn(150) == 0 {
				s.Kind = api.StEvict
			}
			n := c.Net().Len()
			switch s.Kind {
			case api.StEdit:
				s.Edit = chance(r, s.Site, c.Client(s.Site).View().D)
			case api.StTick:
				s.Site = r.Intn(sites + 1)
			case api.StDeliver:
				s.N = r.Intn(min(n, 3) + 1)
			case api.StDrop, api.StDouble, api.StTurn:
				s.N, s.At = r.Intn(n+1), r.Intn(40)
			}
			a := c.Do(s)
			if codes[s.Kind] == nil {
				codes[s.Kind] = map[api.Errno]int{}
			}
			codes[s.Kind][a.Code]++
			if a.Code == api.OK && (s.Kind == api.StEdit || s.Kind == api.StUndo || s.Kind == api.StRedo) {
				accepted[s.Site]++
			}
			if r.Intn(10) == 0 {
				folds(t, c, accepted)
			}
		}
		for site := 1; site <= sites; site++ {
			c.Do(step(api.StJoin, site))
		}
		rests(t, c, accepted)
		serialised += c.Server().Last()
	}
	if serialised < 300 {
		t.Errorf("only %d were serialised", serialised)
	}
	for kind, errs := range map[int][]api.Errno{
		api.StEdit:    {api.OK, api.ErrJoined, api.ErrThere, api.ErrGone, api.ErrDegree, api.ErrCross},
		api.StUndo:    {api.OK, api.ErrNothing},
		api.StRedo:    {api.OK, api.ErrNothing},
		api.StDeliver: {api.OK, api.ErrArg, api.ErrCorrupt, api.ErrOrder, api.ErrEpoch, api.ErrJoined},
	} {
		for _, err := range errs {
			if codes[kind][err] == 0 {
				t.Errorf("of kind %d %d was never told: %v", kind, err, codes[kind])
			}
		}
	}
}

// T5: edits and as many undos, with nothing between, leave the diagram as it was; as many redos make it again.
func TestUndoesAndRedoes(t *testing.T) {
	r := rand.New(rand.NewSource(31))
	for range 20 {
		c := New(2)
		accepted := make([]int, 3)
		for site := 1; site <= 2; site++ {
			c.Do(step(api.StJoin, site))
		}
		rests(t, c, accepted)
		for range 30 {
			site := 1 + r.Intn(2)
			if a := c.Do(edits(site, chance(r, site, c.Client(site).View().D))); a.Code == api.OK {
				accepted[site]++
			}
			c.Do(round)
		}
		rests(t, c, accepted)
		does := func(s api.Step, times int) {
			for range times {
				for len(c.Client(1).Pending()) == api.MaxWindow || c.Clone().Do(s).Code == api.ErrFull {
					c.Do(round)
				}
				if a := c.Do(s); a.Code != api.OK {
					t.Fatalf("%+v: %+v", s, a)
				}
				accepted[1]++
			}
		}
		before := c.Do(step(api.StLook, 1)).Diagram
		times := 0
		for range 20 {
			s := edits(1, chance(r, 1, c.Client(1).View().D))
			if c.Clone().Do(s).Code == api.OK {
				does(s, 1)
				times++
			}
		}
		after := c.Do(step(api.StLook, 1)).Diagram
		for range 2 {
			does(step(api.StUndo, 1), times)
			if !bytes.Equal(c.Do(step(api.StLook, 1)).Diagram, before) {
				t.Fatal("it is not as it was")
			}
			does(step(api.StRedo, 1), times)
			if !bytes.Equal(c.Do(step(api.StLook, 1)).Diagram, after) {
				t.Fatal("it is not made again")
			}
		}
		rests(t, c, accepted)
		if !bytes.Equal(c.Do(step(api.StLook, 0)).Diagram, after) {
			t.Fatal("the server has another")
		}
	}
}

// An edit made for a diagram that is not so any more is done by all alike, or left out by all alike.
func TestAtOnce(t *testing.T) {
	c := New(2)
	accepted := make([]int, 3)
	c.Do(step(api.StJoin, 1))
	c.Do(step(api.StJoin, 2))
	rests(t, c, accepted)
	edge := func(n, from, after, to int) api.Edit {
		return one(api.Op{Kind: api.AddEdge, ID: id(1, n), A: api.Corner{Vert: id(1, from), After: api.Dart{Edge: id(1, after), Side: 0}}, B: api.Corner{Vert: id(1, to)}})
	}
	first := one(api.Op{Kind: api.AddEdge, ID: id(1, 1), A: api.Corner{Vert: id(1, 1)}, B: api.Corner{Vert: id(1, 2)}})
	for i, e := range []api.Edit{newVertex(1, 1), newVertex(1, 2), newVertex(1, 3), first, edge(2, 1, 1, 3)} {
		ok(t, c, edits(1, e), i+1)
		rests(t, c, append([]int{0}, i+1, 0))
	}
	// The one takes an edge away; the other puts one behind it, and takes it away, too.
	drop := one(api.Op{Kind: api.RemoveEdge, ID: id(1, 2)})
	behind := edge(3, 1, 2, 2)
	ok(t, c, edits(1, drop), 6)
	ok(t, c, edits(2, behind), 1)
	ok(t, c, edits(2, drop), 2)
	rests(t, c, []int{0, 6, 2})
	log := c.Server().Log()
	if len(log) != 8 || !op.Same(log[5].Edit, drop) || !op.Same(log[6].Edit, behind) || !op.Same(log[7].Edit, drop) {
		t.Fatalf("the log is %+v", log)
	}
	v, _ := diagram.Vertex(c.Server().State().D, id(1, 1))
	want := []api.Dart{{Edge: id(1, 1)}, {Edge: id(1, 3)}}
	if !slices.Equal(v.Ring, want) {
		t.Errorf("%v, not %v", v.Ring, want)
	}
}
