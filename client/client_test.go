package client

import (
	"bytes"
	"fmt"
	"math"
	"math/rand"
	"slices"
	"strings"
	"testing"

	"tracery/api"
	"tracery/diagram"
	"tracery/edit"
	"tracery/fold"
	"tracery/frame"
	"tracery/hist"
	"tracery/inverse"
	"tracery/op"
	"tracery/opcode"
	"tracery/pack"
	"tracery/server"
)

func id(site, n int) api.ID { return api.ID{Site: site, N: n} }

func one(o api.Op) api.Edit { return api.Edit{Ops: []api.Op{o}} }

func newVertex(n int) api.Edit { return one(api.Op{Kind: api.AddVertex, ID: id(1, n)}) }

func dropVertex(n int) api.Edit { return one(api.Op{Kind: api.RemoveVertex, ID: id(1, n)}) }

func setAttr(n, x int) api.Edit { return one(api.Op{Kind: api.SetAttr, ID: id(1, n), N: x}) }

func same(a, b api.Frame) bool {
	return bytes.Equal(a.Body, b.Body) && a.Kind == b.Kind && a.From == b.From && a.To == b.To && a.Epoch == b.Epoch && a.Seq == b.Seq && a.Ack == b.Ack
}

func sameFrames(a, b []api.Frame) bool { return slices.EqualFunc(a, b, same) }

func hello(site, epoch, seq int) api.Frame {
	return api.Frame{Kind: api.FrHello, From: site, Epoch: epoch, Seq: seq}
}

func sent(site, epoch, seq int, e api.Edit) api.Frame {
	b, _ := opcode.Put(nil, e)
	return api.Frame{Kind: api.FrData, From: site, Epoch: epoch, Seq: seq, Body: b}
}

func acked(site, epoch, n int) api.Frame {
	return api.Frame{Kind: api.FrAck, From: site, Epoch: epoch, Ack: n}
}

// welcome, entry and ack are what a server sends.
func welcome(to, epoch, seq, m, n int, s api.State) api.Frame {
	snap, _ := hist.PutSnap(n, s)
	return api.Frame{Kind: api.FrWelcome, To: to, Epoch: epoch, Seq: seq, Body: append(pack.Num(nil, m), snap...)}
}

func entry(to, epoch, seq, site, number int, e api.Edit) api.Frame {
	return api.Frame{Kind: api.FrData, To: to, Epoch: epoch, Seq: seq, Body: server.PutEntry(api.Entry{Site: site, Seq: number, Edit: e})}
}

func ack(to, epoch, n int) api.Frame {
	return api.Frame{Kind: api.FrAck, To: to, Epoch: epoch, Ack: n}
}

// joined is a client of that site and epoch, of an empty base.
func joined(t *testing.T, site, epoch int) *Client {
	t.Helper()
	c := New(site)
	c.Join()
	takes(t, c, welcome(site, epoch, 1, 0, 0, edit.Empty()))
	return c
}

// takes asks for what is answered.
func takes(t *testing.T, c *Client, f api.Frame, want ...api.Frame) {
	t.Helper()
	got, err := c.Take(f)
	if err != api.OK || !sameFrames(got, want) {
		t.Fatalf("Take of %+v is\n%+v, %d, not\n%+v", f, got, err, want)
	}
}

// digest is all that a client tells.
func digest(c *Client) string {
	came, base := c.Base()
	issued, lost, epoch := c.Counts()
	undone, err := c.Clone().Undo()
	redone, err2 := c.Clone().Redo()
	return fmt.Sprintf("%x\n%d %x\n%+v\n%d %d %d\n%+v\n%+v %d\n%+v %d\n%+v", fold.Bytes(c.View()), came, fold.Bytes(base), c.Pending(), issued, lost, epoch, c.Tick(), undone, err, redone, err2, c.Clone().Join())
}

// refuses asks for the error, and that nothing changes.
func refuses(t *testing.T, c *Client, f api.Frame, want api.Errno) {
	t.Helper()
	was := digest(c)
	got, err := c.Take(f)
	if err != want || got != nil {
		t.Fatalf("Take of %+v is %+v, %d, not %d", f, got, err, want)
	}
	if digest(c) != was {
		t.Fatalf("Take of %+v tells %d, and changes something", f, err)
	}
}

// edits asks for the frame of an edit.
func edits(t *testing.T, c *Client, e api.Edit, want api.Frame) {
	t.Helper()
	if got, err := c.Edit(e); err != api.OK || !same(got, want) {
		t.Fatalf("Edit of %v is %+v, %d, not %+v", e, got, err, want)
	}
}

// cannot asks for the error of an Edit, an Undo or a Redo, and that nothing changes.
func cannot(t *testing.T, c *Client, what string, call func() (api.Frame, api.Errno), want api.Errno) {
	t.Helper()
	was := digest(c)
	if got, err := call(); err != want || !same(got, api.Frame{}) {
		t.Fatalf("%s is %+v, %d, not %d", what, got, err, want)
	}
	if digest(c) != was {
		t.Fatalf("%s tells %d, and changes something", what, want)
	}
}

func cannotEdit(t *testing.T, c *Client, e api.Edit, want api.Errno) {
	t.Helper()
	cannot(t, c, fmt.Sprintf("Edit of %v", e), func() (api.Frame, api.Errno) { return c.Edit(e) }, want)
}

func counts(t *testing.T, c *Client, issued, lost, epoch int) {
	t.Helper()
	if i, l, e := c.Counts(); i != issued || l != lost || e != epoch {
		t.Errorf("Counts are %d, %d, %d, not %d, %d, %d", i, l, e, issued, lost, epoch)
	}
}

// shows asks for the base, and what is pending, and that View is what comes of both.
func shows(t *testing.T, c *Client, base []api.Edit, pending ...api.Edit) {
	t.Helper()
	want := fold.All(edit.Empty(), base)
	if came, s := c.Base(); came != len(base) || !fold.Equal(s, want) {
		t.Errorf("Base is %d, %+v, not %d, %+v", came, s, len(base), want)
	}
	if got := c.Pending(); !slices.EqualFunc(got, pending, op.Same) {
		t.Errorf("Pending are %v, not %v", got, pending)
	}
	if got := c.View(); !fold.Equal(got, fold.All(want, pending)) {
		t.Errorf("View is %+v", got)
	}
}

// settle brings what clients and a server send from the one to the other, till all is quiet.
func settle(t *testing.T, s *server.Server, clients ...*Client) {
	t.Helper()
	var way []api.Frame
	for _, c := range clients {
		way = append(way, c.Tick()...)
	}
	for len(way) > 0 {
		f := way[0]
		way = way[1:]
		if frame.May(f) != api.OK {
			t.Fatalf("%+v may not be", f)
		}
		var out []api.Frame
		var err api.Errno
		if f.To == 0 {
			out, err = s.Take(f)
		} else {
			for _, c := range clients {
				if c.site == f.To {
					out, err = c.Take(f)
				}
			}
		}
		if err != api.OK {
			t.Fatalf("%+v: %d", f, err)
		}
		way = append(way, out...)
	}
}

// P20.1

func TestAtFirst(t *testing.T) {
	c := New(3)
	shows(t, c, nil)
	counts(t, c, 0, 0, 0)
	if len(c.Tick()) != 0 {
		t.Errorf("Tick is %+v", c.Tick())
	}
}

func TestSiteIsHeld(t *testing.T) {
	for site, want := range map[int]int{math.MinInt: 1, -1: 1, 0: 1, 1: 1, 2: 2, 8: 8, 9: 8, math.MaxInt: 8} {
		if got := New(site).Join(); !same(got, hello(want, 0, 1)) {
			t.Errorf("New(%d): %+v", site, got)
		}
	}
}

func TestJoin(t *testing.T) {
	c := New(2)
	for n := 1; n < 4; n++ {
		if got := c.Join(); !same(got, hello(2, 0, n)) {
			t.Errorf("%+v", got)
		}
		if got := c.Tick(); !sameFrames(got, []api.Frame{hello(2, 0, n)}) {
			t.Errorf("Tick is %+v", got)
		}
	}
	takes(t, c, welcome(2, 7, 3, 0, 0, edit.Empty()))
	if got := c.Tick(); len(got) != 0 {
		t.Errorf("Tick is %+v", got)
	}
	if got := c.Join(); !same(got, hello(2, 7, 4)) {
		t.Errorf("%+v", got)
	}
	counts(t, c, 0, 0, 7)
}

// P20.2

func TestExample(t *testing.T) {
	c := New(1)
	cannotEdit(t, c, newVertex(1), api.ErrJoined)
	cannot(t, c, "Undo", c.Undo, api.ErrNothing)
	cannot(t, c, "Redo", c.Redo, api.ErrNothing)
	c.Join()
	cannotEdit(t, c, newVertex(1), api.ErrJoined)
	cannotEdit(t, c, api.Edit{}, api.ErrJoined)
}

func TestEdit(t *testing.T) {
	c := joined(t, 2, 5)
	edits(t, c, newVertex(1), sent(2, 5, 1, newVertex(1)))
	group := api.Edit{Ops: []api.Op{newVertex(2).Ops[0], setAttr(1, 4).Ops[0]}}
	edits(t, c, group, sent(2, 5, 2, group))
	shows(t, c, nil, newVertex(1), group)
	counts(t, c, 2, 0, 5)
	if got := c.Tick(); !sameFrames(got, []api.Frame{sent(2, 5, 1, newVertex(1)), sent(2, 5, 2, group)}) {
		t.Errorf("Tick is %+v", got)
	}
	for e, want := range map[*api.Edit]api.Errno{
		{}:                           api.ErrBig,
		{Ops: make([]api.Op, 7)}:     api.ErrBig,
		{Ops: make([]api.Op, 1)}:     api.ErrArg,
		{Ops: newVertex(1).Ops}:      api.ErrThere,
		{Ops: dropVertex(3).Ops}:     api.ErrGone,
		{Ops: setAttr(1, 1<<41).Ops}: api.ErrArg,
		{Ops: []api.Op{{Kind: api.SetLabel, ID: id(1, 1), Text: "\n"}}}: api.ErrLabel,
	} {
		cannotEdit(t, c, *e, want)
	}
	edits(t, c, dropVertex(2), sent(2, 5, 3, dropVertex(2)))
	counts(t, c, 3, 0, 5)
}

// What takes an edit back may be more than a group: such an edit can't be undone in one, and is not done.
func TestEditOfWhichTheInverseIsTooMuch(t *testing.T) {
	c := joined(t, 1, 1)
	var ops []api.Op
	for n := 1; n <= 3; n++ {
		edits(t, c, labelled(n), sent(1, 1, n, labelled(n)))
		ops = append(ops, dropVertex(n).Ops[0])
	}
	cannotEdit(t, c, api.Edit{Ops: ops}, api.ErrBig)
	edits(t, c, api.Edit{Ops: ops[:2]}, sent(1, 1, 4, api.Edit{Ops: ops[:2]}))
	// Of one that can't be done that is told, and of a window that is full.
	cannotEdit(t, c, api.Edit{Ops: append(ops, ops[0])}, api.ErrGone)
	for n := 5; n <= 8; n++ {
		edits(t, c, newVertex(n), sent(1, 1, n, newVertex(n)))
	}
	cannotEdit(t, c, api.Edit{Ops: ops}, api.ErrFull)
	cannotEdit(t, c, api.Edit{}, api.ErrFull)
	cannot(t, c, "Undo", c.Undo, api.ErrFull)
	cannot(t, c, "Redo", c.Redo, api.ErrNothing)
}

// labelled is a vertex with a label and an attribute.
func labelled(n int) api.Edit {
	return api.Edit{Ops: []api.Op{newVertex(n).Ops[0], setAttr(n, n).Ops[0], {Kind: api.SetLabel, ID: id(1, n), Text: "x"}}}
}

func TestFull(t *testing.T) {
	c := joined(t, 1, 1)
	var all []api.Edit
	for n := 1; n <= 8; n++ {
		all = append(all, newVertex(n))
		edits(t, c, newVertex(n), sent(1, 1, n, newVertex(n)))
	}
	cannotEdit(t, c, newVertex(9), api.ErrFull)
	// What is acknowledged is pending yet.
	takes(t, c, ack(1, 1, 8))
	cannotEdit(t, c, newVertex(9), api.ErrFull)
	takes(t, c, entry(1, 1, 1, 1, 1, newVertex(1)), acked(1, 1, 1))
	edits(t, c, newVertex(9), sent(1, 1, 9, newVertex(9)))
	cannotEdit(t, c, newVertex(10), api.ErrFull)
	shows(t, c, all[:1], append(slices.Clone(all[1:]), newVertex(9))...)

	// What is told is kept by the sender yet.
	c = joined(t, 1, 1)
	for n := 1; n <= 8; n++ {
		c.Edit(newVertex(n))
		takes(t, c, entry(1, 1, n, 1, n, newVertex(n)), acked(1, 1, n))
	}
	shows(t, c, all)
	cannotEdit(t, c, newVertex(9), api.ErrFull)
	cannot(t, c, "Undo", c.Undo, api.ErrFull)
	takes(t, c, ack(1, 1, 1))
	edits(t, c, newVertex(9), sent(1, 1, 9, newVertex(9)))
}

func TestUndoAndRedo(t *testing.T) {
	c := joined(t, 1, 1)
	seq := 0
	moves := func(what string, call func() (api.Frame, api.Errno), want api.Edit) {
		t.Helper()
		seq++
		if got, err := call(); err != api.OK || !same(got, sent(1, 1, seq, want)) {
			t.Fatalf("%s is %+v, %d, not of %v", what, got, err, want)
		}
	}
	edits(t, c, newVertex(1), sent(1, 1, 1, newVertex(1)))
	seq++
	cannot(t, c, "Redo", c.Redo, api.ErrNothing)
	moves("Undo", c.Undo, dropVertex(1))
	cannot(t, c, "Undo", c.Undo, api.ErrNothing)
	moves("Redo", c.Redo, newVertex(1))
	cannot(t, c, "Redo", c.Redo, api.ErrNothing)
	moves("Undo", c.Undo, dropVertex(1))
	shows(t, c, nil, newVertex(1), dropVertex(1), newVertex(1), dropVertex(1))
	counts(t, c, 4, 0, 1)
	edits(t, c, newVertex(2), sent(1, 1, 5, newVertex(2)))
	seq++
	cannot(t, c, "Redo", c.Redo, api.ErrNothing)
	moves("Undo", c.Undo, dropVertex(2))
	cannot(t, c, "Undo", c.Undo, api.ErrNothing)
	moves("Redo", c.Redo, newVertex(2))
	cannotEdit(t, c, newVertex(2), api.ErrThere)
	moves("Undo", c.Undo, dropVertex(2))
	cannot(t, c, "Undo", c.Undo, api.ErrNothing)
	cannot(t, c, "Redo", c.Redo, api.ErrFull)
}

// What others did meanwhile may be in the way of an undo: it stays upon its stack.
func TestUndoThatCannotBe(t *testing.T) {
	c := joined(t, 1, 1)
	edits(t, c, newVertex(1), sent(1, 1, 1, newVertex(1)))
	takes(t, c, entry(1, 1, 1, 1, 1, newVertex(1)), acked(1, 1, 1))
	takes(t, c, entry(1, 1, 2, 2, 1, dropVertex(1)), acked(1, 1, 2))
	cannot(t, c, "Undo", c.Undo, api.ErrGone)
	takes(t, c, entry(1, 1, 3, 2, 2, newVertex(1)), acked(1, 1, 3))
	takes(t, c, entry(1, 1, 4, 2, 3, setAttr(1, 7)), acked(1, 1, 4))
	if got, err := c.Undo(); err != api.OK || !same(got, sent(1, 1, 2, dropVertex(1))) {
		t.Errorf("%+v, %d", got, err)
	}
	// What takes that back is of the state in which it was done.
	want := api.Edit{Ops: append(newVertex(1).Ops, setAttr(1, 7).Ops...)}
	if got, err := c.Redo(); err != api.OK || !same(got, sent(1, 1, 3, want)) {
		t.Errorf("%+v, %d", got, err)
	}
}

func TestOfTheStackTheUndermostGoes(t *testing.T) {
	for _, most := range []int{64, 65, 70} {
		undermost(t, most)
	}
}

// undermost asks of a vertex, and so many edits of it, that the last 64 can be undone, and done again.
func undermost(t *testing.T, most int) {
	t.Helper()
	s := server.New()
	c := New(1)
	c.Join()
	settle(t, s, c)
	edits(t, c, newVertex(1), sent(1, 1, 1, newVertex(1)))
	for n := 1; n <= most; n++ {
		if _, err := c.Edit(setAttr(1, n)); err != api.OK {
			t.Fatal(err)
		}
		settle(t, s, c)
	}
	attr := func() int {
		v, _ := diagram.Vertex(c.View().D, id(1, 1))
		return v.Attr
	}
	for range 2 {
		for n := most - 1; n >= most-64; n-- {
			if _, err := c.Undo(); err != api.OK || attr() != n {
				t.Fatalf("Undo to %d: %d, %d", n, err, attr())
			}
			settle(t, s, c)
		}
		cannot(t, c, "Undo", c.Undo, api.ErrNothing)
		for n := most - 63; n <= most; n++ {
			if _, err := c.Redo(); err != api.OK || attr() != n {
				t.Fatalf("Redo to %d: %d, %d", n, err, attr())
			}
			settle(t, s, c)
		}
		cannot(t, c, "Redo", c.Redo, api.ErrNothing)
	}
}

// P20.3

func TestOfWhatMayNotBe(t *testing.T) {
	c := joined(t, 2, 5)
	c.Join()
	edits(t, c, newVertex(1), sent(2, 5, 1, newVertex(1)))
	refuses(t, c, api.Frame{}, api.ErrArg)
	refuses(t, c, api.Frame{Kind: 5, To: 2, Epoch: 5}, api.ErrArg)
	refuses(t, c, api.Frame{Kind: api.FrAck, To: 2, Epoch: -5}, api.ErrArg)
	refuses(t, c, api.Frame{Kind: api.FrAck, From: 1, To: 1, Epoch: 5}, api.ErrArg)
	refuses(t, c, api.Frame{Kind: api.FrData, To: 2, Epoch: 5, Seq: 1, Body: make([]byte, api.MaxFrame+1)}, api.ErrBig)
	refuses(t, c, api.Frame{Kind: api.FrData, To: 3, Epoch: 5, Seq: 1, Body: make([]byte, api.MaxFrame+1)}, api.ErrBig)
	for kind := api.FrHello; kind <= api.FrAck; kind++ {
		for _, way := range [][2]int{{0, 1}, {0, 3}, {1, 2}, {2, 0}, {1, 0}, {3, 1}} {
			refuses(t, c, api.Frame{Kind: kind, From: way[0], To: way[1], Epoch: 5, Seq: 2}, api.ErrSite)
		}
	}
	refuses(t, c, api.Frame{Kind: api.FrHello, To: 2, Epoch: 5, Seq: 2}, api.ErrArg)
	refuses(t, New(2), api.Frame{Kind: api.FrHello, To: 2}, api.ErrArg)
}

func TestWelcome(t *testing.T) {
	s := fold.All(edit.Empty(), []api.Edit{newVertex(7), newVertex(8)})
	c := New(4)
	refuses(t, c, welcome(4, 1, 0, 0, 0, edit.Empty()), api.ErrOrder)
	refuses(t, c, welcome(4, 1, 1, 0, 0, edit.Empty()), api.ErrOrder)
	c.Join()
	c.Join()
	for _, seq := range []int{0, 1, 3} {
		refuses(t, c, welcome(4, 1, seq, 0, 0, edit.Empty()), api.ErrOrder)
	}
	good := welcome(4, 9, 2, 0, 258, s)
	for n := range len(good.Body) {
		bad := good
		bad.Body = good.Body[:n]
		refuses(t, c, bad, api.ErrCorrupt)
		bad.Seq = 1
		refuses(t, c, bad, api.ErrOrder)
	}
	for _, m := range []int{-1, math.MinInt} {
		refuses(t, c, welcome(4, 9, 2, m, 258, s), api.ErrCorrupt)
	}
	bad := good
	bad.Body = append(slices.Clone(good.Body), 0)
	refuses(t, c, bad, api.ErrCorrupt)
	takes(t, c, good)
	came, base := c.Base()
	if came != 258 || !fold.Equal(base, s) || !fold.Equal(c.View(), s) {
		t.Errorf("Base is %d, %+v", came, base)
	}
	counts(t, c, 0, 0, 9)
	refuses(t, c, good, api.ErrOrder)
	takes(t, c, entry(4, 9, 1, 2, 1, newVertex(1)), acked(4, 9, 1))
	if came, _ := c.Base(); came != 259 {
		t.Errorf("%d came", came)
	}
}

// Of what is pending that is lost which the server did not get.
func TestWhatIsLost(t *testing.T) {
	for _, x := range []struct{ told, m, lost int }{
		{0, 0, 5}, {0, 1, 4}, {0, 4, 1}, {0, 5, 0}, {0, 6, 0}, {0, math.MaxInt, 0},
		{2, 0, 3}, {2, 1, 3}, {2, 2, 3}, {2, 3, 2}, {2, 5, 0}, {5, 0, 0}, {5, 5, 0},
	} {
		c := joined(t, 1, 3)
		for n := 1; n <= 5; n++ {
			edits(t, c, newVertex(n), sent(1, 3, n, newVertex(n)))
		}
		for n := 1; n <= x.told; n++ {
			takes(t, c, entry(1, 3, n, 1, n, newVertex(n)), acked(1, 3, n))
		}
		c.Join()
		edits(t, c, newVertex(6), sent(1, 3, 6, newVertex(6)))
		if _, err := c.Undo(); err != api.OK {
			t.Fatal(err)
		}
		lost := x.lost + min(max(7-max(x.m, 5), 0), 2)
		counts(t, c, 7, 0, 3)
		takes(t, c, welcome(1, 8, 2, x.m, 0, edit.Empty()))
		counts(t, c, 0, lost, 8)
		shows(t, c, nil)
		cannot(t, c, "Undo", c.Undo, api.ErrNothing)
		cannot(t, c, "Redo", c.Redo, api.ErrNothing)
		// All begins anew.
		edits(t, c, newVertex(1), sent(1, 8, 1, newVertex(1)))
		counts(t, c, 1, lost, 8)
		takes(t, c, entry(1, 8, 1, 1, 1, newVertex(1)), acked(1, 8, 1))
		edits(t, c, newVertex(2), sent(1, 8, 2, newVertex(2)))
		c.Join()
		takes(t, c, welcome(1, 9, 3, 1, 0, edit.Empty()))
		counts(t, c, 0, lost+1, 9)
	}
}

func TestEntries(t *testing.T) {
	c := New(2)
	refuses(t, c, entry(2, 0, 1, 1, 1, newVertex(1)), api.ErrEpoch)
	refuses(t, c, entry(2, 1, 1, 1, 1, newVertex(1)), api.ErrEpoch)
	c = joined(t, 2, 5)
	for _, epoch := range []int{0, 4, 6} {
		refuses(t, c, entry(2, epoch, 1, 1, 1, newVertex(1)), api.ErrEpoch)
	}
	edits(t, c, newVertex(5), sent(2, 5, 1, newVertex(5)))
	edits(t, c, newVertex(6), sent(2, 5, 2, newVertex(6)))
	for _, b := range [][]byte{nil, {1}, sent(2, 5, 1, newVertex(1)).Body, append(entry(2, 5, 1, 1, 1, newVertex(1)).Body, 0), entry(2, 5, 1, 0, 1, newVertex(1)).Body, entry(2, 5, 1, 1, 0, newVertex(1)).Body} {
		bad := api.Frame{Kind: api.FrData, To: 2, Epoch: 5, Seq: 1, Body: b}
		refuses(t, c, bad, api.ErrCorrupt)
		bad.Seq = 0
		refuses(t, c, bad, api.ErrCorrupt)
		bad.Epoch = 4
		refuses(t, c, bad, api.ErrEpoch)
	}
	refuses(t, c, entry(2, 5, 65, 1, 1, newVertex(1)), api.ErrOrder)
	takes(t, c, entry(2, 5, 64, 8, 9, newVertex(9)), acked(2, 5, 0))
	refuses(t, c, entry(2, 5, 64, 8, 9, newVertex(9)), api.ErrOrder)
	takes(t, c, entry(2, 5, 2, 2, 1, newVertex(5)), acked(2, 5, 0))
	shows(t, c, nil, newVertex(5), newVertex(6))
	// One of another site, and then its own that came ahead of its turn.
	takes(t, c, entry(2, 5, 1, 1, 1, newVertex(6)), acked(2, 5, 2))
	base := []api.Edit{newVertex(6), newVertex(5)}
	shows(t, c, base, newVertex(6))
	for seq := range 3 {
		takes(t, c, entry(2, 5, seq, 1, 1, newVertex(8)), acked(2, 5, 2))
	}
	shows(t, c, base, newVertex(6))
	// Its own that can't be done any more: it is not pending, and comes to nothing.
	takes(t, c, entry(2, 5, 3, 2, 2, newVertex(6)), acked(2, 5, 3))
	base = append(base, newVertex(6))
	shows(t, c, base)
	takes(t, c, entry(2, 5, 4, 2, 3, newVertex(7)), acked(2, 5, 4))
	shows(t, c, append(base, newVertex(7)))
	counts(t, c, 2, 0, 5)
}

func TestAck(t *testing.T) {
	c := New(2)
	refuses(t, c, ack(2, 0, 0), api.ErrEpoch)
	c = joined(t, 2, 5)
	refuses(t, c, ack(2, 4, 0), api.ErrEpoch)
	refuses(t, c, ack(2, 0, 0), api.ErrEpoch)
	refuses(t, c, ack(2, 5, 1), api.ErrOrder)
	takes(t, c, ack(2, 5, 0))
	for n := 1; n <= 3; n++ {
		edits(t, c, newVertex(n), sent(2, 5, n, newVertex(n)))
	}
	takes(t, c, ack(2, 5, 2))
	refuses(t, c, ack(2, 5, 1), api.ErrOrder)
	refuses(t, c, ack(2, 5, 4), api.ErrOrder)
	if got := c.Tick(); !sameFrames(got, []api.Frame{sent(2, 5, 3, newVertex(3))}) {
		t.Errorf("Tick is %+v", got)
	}
	shows(t, c, nil, newVertex(1), newVertex(2), newVertex(3))
}

// P20.4

func TestTick(t *testing.T) {
	c := joined(t, 2, 5)
	edits(t, c, newVertex(1), sent(2, 5, 1, newVertex(1)))
	edits(t, c, newVertex(2), sent(2, 5, 2, newVertex(2)))
	c.Join()
	want := []api.Frame{sent(2, 5, 1, newVertex(1)), sent(2, 5, 2, newVertex(2)), hello(2, 5, 2)}
	for range 2 {
		got := c.Tick()
		if !sameFrames(got, want) {
			t.Errorf("%+v, not %+v", got, want)
		}
		for _, f := range got {
			clear(f.Body)
		}
	}
	takes(t, c, welcome(2, 6, 2, 0, 0, edit.Empty()))
	if got := c.Tick(); len(got) != 0 {
		t.Errorf("%+v", got)
	}
}

func TestWhatIsHandedInAndOut(t *testing.T) {
	c := joined(t, 1, 1)
	w := newVertex(1)
	f, _ := c.Edit(w)
	clear(w.Ops)
	clear(f.Body)
	d := c.Clone()
	held := entry(1, 1, 2, 2, 1, newVertex(9))
	c.Take(held)
	clear(held.Body)
	first := entry(1, 1, 1, 1, 1, newVertex(1))
	c.Take(first)
	clear(first.Body)
	base := []api.Edit{newVertex(1), newVertex(9)}
	c.Edit(newVertex(2))
	for range 2 {
		shows(t, c, base, newVertex(2))
		p := c.Pending()
		clear(p[0].Ops)
		_ = append(p, api.Edit{})
		clear(p)
		clear(c.View().D.Verts)
		_, s := c.Base()
		clear(s.D.Verts)
		for _, f := range c.Tick() {
			clear(f.Body)
		}
	}
	shows(t, d, nil, newVertex(1))
	f, _ = c.Undo()
	clear(f.Body)
	if got, err := c.Redo(); err != api.OK || !same(got, sent(1, 1, 4, newVertex(2))) {
		t.Errorf("%+v, %d", got, err)
	}
}

func TestCloneGoesItsOwnWay(t *testing.T) {
	c := joined(t, 1, 1)
	c.Edit(newVertex(1))
	c.Edit(newVertex(2))
	c.Edit(newVertex(3))
	c.Undo()
	c.Undo()
	c.Take(entry(1, 1, 1, 1, 1, newVertex(1)))
	c.Take(entry(1, 1, 3, 1, 3, newVertex(3)))
	was := digest(c)
	act := func(c *Client) string {
		c.Redo()
		c.Edit(setAttr(1, 5))
		c.Undo()
		c.Take(entry(1, 1, 2, 2, 1, newVertex(8)))
		c.Take(ack(1, 1, 2))
		c.Join()
		l := digest(c)
		c.Take(welcome(1, 2, 2, 3, 0, edit.Empty()))
		c.Edit(newVertex(7))
		return l + digest(c)
	}
	d := c.Clone()
	if digest(d) != was {
		t.Fatal("the clone is not the same")
	}
	told := act(d)
	if digest(c) != was {
		t.Fatal("what was done of the clone is seen")
	}
	e := c.Clone()
	if act(c) != told || digest(e) != was {
		t.Fatal("what was done is seen by the clone, or comes to something else")
	}
	if digest(New(3).Clone()) != digest(New(3)) {
		t.Error("the clone of a new one")
	}
	// Each has its own room behind what is pending, and upon its stacks.
	c = joined(t, 1, 1)
	for n := 1; n <= 5; n++ {
		c.Edit(newVertex(n))
	}
	d = c.Clone()
	c.Edit(newVertex(6))
	d.Edit(newVertex(7))
	was = digest(c)
	d.Undo()
	d.Undo()
	if digest(c) != was {
		t.Error("what was done of the clone is seen")
	}
	if got := c.Pending(); len(got) != 6 || !op.Same(got[5], newVertex(6)) {
		t.Errorf("%v", got)
	}
}

// P20.5

// chance is an edit of few names, of which most can be done in the state.
func chance(r *rand.Rand, s api.State) api.Edit {
	for {
		names := diagram.Names(s.D)
		old := func() api.ID {
			if len(names) > 0 && r.Intn(5) > 0 {
				return names[r.Intn(len(names))]
			}
			return id(1+r.Intn(2), 1+r.Intn(9))
		}
		var e api.Edit
		for range 1 + r.Intn(3) {
			o := api.Op{Kind: 1 + r.Intn(8), ID: old()}
			switch o.Kind {
			case api.AddEdge:
				o.ID = id(1+r.Intn(2), 1+r.Intn(9))
				o.A = api.Corner{Vert: old(), After: api.Dart{Edge: old(), Side: r.Intn(2)}}
				o.B = api.Corner{Vert: old(), After: api.Dart{Edge: old(), Side: r.Intn(2)}}
			case api.SplitEdge:
				o.New, o.Other, o.N = id(1, 1+r.Intn(9)), id(2, 1+r.Intn(9)), r.Intn(4)
			case api.SmoothVertex:
				o.Other = old()
			case api.SetLabel:
				o.OfEdge, o.Text = r.Intn(2) == 0, strings.Repeat("x", r.Intn(3))
			case api.SetAttr:
				o.OfEdge, o.N = r.Intn(2) == 0, r.Intn(5)-2
			}
			e.Ops = append(e.Ops, o)
		}
		if back, err := inverse.Of(s, e); err == api.OK && len(back) <= api.MaxGroup {
			return e
		}
	}
}

func TestUndoesAndRedoes(t *testing.T) {
	r := rand.New(rand.NewSource(27))
	for range 25 {
		s := server.New()
		c := New(1)
		c.Join()
		settle(t, s, c)
		quiet := func() {
			if r.Intn(3) == 0 || len(c.Pending()) == api.MaxWindow {
				settle(t, s, c)
			}
		}
		for range 10 {
			c.Edit(chance(r, c.View()))
			settle(t, s, c)
		}
		views := []api.State{c.View()}
		for range 1 + r.Intn(40) {
			quiet()
			if _, err := c.Edit(chance(r, c.View())); err != api.OK {
				t.Fatal(err)
			}
			views = append(views, c.View())
		}
		last := len(views) - 1
		for range 2 {
			for i := last - 1; i >= 0; i-- {
				quiet()
				if _, err := c.Undo(); err != api.OK || !diagram.Same(c.View().D, views[i].D) {
					t.Fatalf("%d undone: %d", last-i, err)
				}
			}
			for i := 1; i <= last; i++ {
				quiet()
				if _, err := c.Redo(); err != api.OK || !diagram.Same(c.View().D, views[i].D) {
					t.Fatalf("%d done again: %d", i, err)
				}
			}
		}
		settle(t, s, c)
		if !fold.Equal(c.View(), s.State()) || len(c.Pending()) != 0 {
			t.Fatal("the server's state is another")
		}
	}
}

// Several sites, each ahead of the server: when all is quiet they have the same.
func TestSeveral(t *testing.T) {
	r := rand.New(rand.NewSource(28))
	for range 10 {
		s := server.New()
		cs := []*Client{New(1), New(2), New(3)}
		for _, c := range cs {
			c.Join()
		}
		settle(t, s, cs...)
		issued := 0
		for range 100 {
			c := cs[r.Intn(len(cs))]
			var err api.Errno
			switch r.Intn(5) {
			case 0:
				_, err = c.Undo()
			case 1:
				_, err = c.Redo()
			default:
				_, err = c.Edit(chance(r, c.View()))
			}
			if err == api.OK {
				issued++
			}
			if r.Intn(4) == 0 {
				settle(t, s, cs...)
			}
		}
		settle(t, s, cs...)
		for _, c := range cs {
			came, base := c.Base()
			if came != s.Last() || len(c.Pending()) != 0 || !fold.Equal(base, s.State()) {
				t.Fatalf("%d came of %d, and %d are pending", came, s.Last(), len(c.Pending()))
			}
		}
		if s.Last() != issued {
			t.Fatalf("%d were issued, %d serialised", issued, s.Last())
		}
	}
}
