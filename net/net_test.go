package net

import (
	"bytes"
	"math"
	"math/rand"
	"slices"
	"testing"

	"tracery/api"
	"tracery/frame"
)

// numbered is a frame that is known by its number.
func numbered(n int) api.Frame {
	return api.Frame{Kind: api.FrData, From: n % 3, To: 3, Epoch: 1, Seq: n, Body: bytes.Repeat([]byte{byte(n)}, n%5)}
}

func same(a, b api.Frame) bool {
	return bytes.Equal(a.Body, b.Body) && a.Kind == b.Kind && a.From == b.From && a.To == b.To && a.Epoch == b.Epoch && a.Seq == b.Seq && a.Ack == b.Ack
}

// of is a net with frames of these numbers on their way.
func of(ns ...int) *Net {
	n := New()
	for _, x := range ns {
		n.Send([]api.Frame{numbered(x)})
	}
	return n
}

// has asks for the numbers of the frames on their way; below 0 is one that is corrupt.
func has(t *testing.T, n *Net, want ...int) {
	t.Helper()
	if n.Len() != len(want) {
		t.Fatalf("%d are on their way, not %d", n.Len(), len(want))
	}
	for i, x := range want {
		f, err := n.At(i)
		if x < 0 && (err != api.ErrCorrupt || !same(f, api.Frame{})) {
			t.Errorf("at %d: %+v, %d", i, f, err)
		}
		if x >= 0 && (err != api.OK || !same(f, numbered(x))) {
			t.Errorf("at %d: %+v, %d, not %d", i, f, err, x)
		}
	}
}

func counts(t *testing.T, n *Net, want ...int) {
	t.Helper()
	if got := n.Tally(); !slices.Equal(got, want) {
		t.Errorf("Tally is %v, not %v", got, want)
	}
}

func is(t *testing.T, what string, got, want api.Errno) {
	t.Helper()
	if got != want {
		t.Errorf("%s is %d, not %d", what, got, want)
	}
}

// P21.1

func TestExample(t *testing.T) {
	n := New()
	if got := n.Send([]api.Frame{{Kind: api.FrAck, From: 1}}); got != 1 {
		t.Error(got)
	}
	is(t, "Turn", n.Turn(0, 5), api.OK)
	if f, err := n.Deliver(0); err != api.ErrCorrupt || !same(f, api.Frame{}) || n.Len() != 0 {
		t.Errorf("%+v, %d, %d", f, err, n.Len())
	}
}

func TestSend(t *testing.T) {
	n := New()
	has(t, n)
	counts(t, n, 0, 0, 0, 0, 0, 0)
	if got := n.Send(nil); got != 0 {
		t.Error(got)
	}
	bad := []api.Frame{{}, {Kind: 5, To: 1}, {Kind: 1, From: 2, To: 2}, {Kind: 1, To: 9}, {Kind: 3, To: 1, Body: make([]byte, api.MaxFrame+1)}}
	if got := n.Send(bad); got != 0 {
		t.Error(got)
	}
	has(t, n)
	if got := n.Send([]api.Frame{numbered(1), bad[0], numbered(2), bad[4], numbered(1)}); got != 3 {
		t.Error(got)
	}
	has(t, n, 1, 2, 1)
	if got := n.Send([]api.Frame{numbered(4)}); got != 1 {
		t.Error(got)
	}
	has(t, n, 1, 2, 1, 4)
	counts(t, n, 4, 0, 0, 0, 0, 0)
}

func TestFull(t *testing.T) {
	n := New()
	var l []api.Frame
	for i := range 4094 {
		l = append(l, numbered(i))
	}
	if got := n.Send(l); got != 4094 {
		t.Error(got)
	}
	if got := n.Send([]api.Frame{numbered(5), {}, numbered(6), numbered(7), {}, numbered(8)}); got != 2 {
		t.Error(got)
	}
	counts(t, n, 4096, 2, 0, 0, 0, 0)
	if n.Len() != 4096 {
		t.Error(n.Len())
	}
	is(t, "Double", n.Double(0), api.ErrFull)
	is(t, "Double of none", n.Double(4096), api.ErrArg)
	is(t, "Turn", n.Turn(4095, 0), api.OK)
	is(t, "Drop", n.Drop(10), api.OK)
	is(t, "Double", n.Double(0), api.OK)
	is(t, "Double", n.Double(0), api.ErrFull)
	if got := n.Send([]api.Frame{numbered(1)}); got != 0 {
		t.Error(got)
	}
	counts(t, n, 4096, 3, 0, 0, 1, 1)
	if f, err := n.At(4095); err != api.OK || !same(f, numbered(0)) {
		t.Errorf("%+v, %d", f, err)
	}
}

// outside are places where there is no frame.
func outside(n *Net) []int {
	return []int{math.MinInt, -1, n.Len(), n.Len() + 1, api.MaxNet, math.MaxInt}
}

func TestOfNone(t *testing.T) {
	for _, n := range []*Net{New(), of(1, 2, 3)} {
		was := n.Tally()
		for _, i := range outside(n) {
			if f, err := n.At(i); err != api.ErrArg || !same(f, api.Frame{}) {
				t.Errorf("At %d is %+v, %d", i, f, err)
			}
			if f, err := n.Deliver(i); err != api.ErrArg || !same(f, api.Frame{}) {
				t.Errorf("Deliver of %d is %+v, %d", i, f, err)
			}
			is(t, "Drop", n.Drop(i), api.ErrArg)
			is(t, "Double", n.Double(i), api.ErrArg)
			is(t, "Turn", n.Turn(i, 0), api.ErrArg)
		}
		counts(t, n, was...)
		if n.Len() > 0 {
			has(t, n, 1, 2, 3)
		}
	}
}

// P21.2

func TestDeliver(t *testing.T) {
	n := of(1, 2, 3, 4)
	delivers := func(i, want int) {
		t.Helper()
		if f, err := n.Deliver(i); err != api.OK || !same(f, numbered(want)) {
			t.Errorf("Deliver of %d is %+v, %d, not %d", i, f, err, want)
		}
	}
	delivers(1, 2)
	has(t, n, 1, 3, 4)
	delivers(2, 4)
	delivers(0, 1)
	has(t, n, 3)
	delivers(0, 3)
	has(t, n)
	counts(t, n, 4, 0, 4, 0, 0, 0)
}

func TestDrop(t *testing.T) {
	n := of(1, 2, 3)
	is(t, "Turn", n.Turn(2, 0), api.OK)
	is(t, "Drop", n.Drop(1), api.OK)
	has(t, n, 1, -1)
	is(t, "Drop", n.Drop(1), api.OK)
	has(t, n, 1)
	is(t, "Drop", n.Drop(0), api.OK)
	has(t, n)
	counts(t, n, 3, 0, 0, 0, 3, 0)
}

func TestDouble(t *testing.T) {
	n := of(1, 2, 3)
	is(t, "Double", n.Double(1), api.OK)
	has(t, n, 1, 2, 3, 2)
	// Each of them is on its own way.
	is(t, "Turn", n.Turn(1, 7), api.OK)
	has(t, n, 1, -2, 3, 2)
	is(t, "Double", n.Double(1), api.OK)
	has(t, n, 1, -2, 3, 2, -2)
	is(t, "Turn", n.Turn(4, 7), api.OK)
	has(t, n, 1, -2, 3, 2, 2)
	counts(t, n, 3, 0, 0, 0, 0, 2)
}

func TestTurn(t *testing.T) {
	b, _ := frame.Put(numbered(4))
	for at := range b {
		n := of(3, 4, 5)
		is(t, "Turn", n.Turn(1, at), api.OK)
		has(t, n, 3, -4, 5)
		is(t, "Turn", n.Turn(1, at), api.OK)
		has(t, n, 3, 4, 5)
		is(t, "Turn", n.Turn(1, at), api.OK)
		if f, err := n.Deliver(1); err != api.ErrCorrupt || !same(f, api.Frame{}) {
			t.Errorf("%+v, %d", f, err)
		}
		has(t, n, 3, 5)
		counts(t, n, 3, 0, 0, 1, 0, 0)
	}
	n := of(3, 4, 5)
	for _, at := range []int{math.MinInt, -1, len(b), len(b) + 1, math.MaxInt} {
		is(t, "Turn", n.Turn(1, at), api.ErrArg)
	}
	has(t, n, 3, 4, 5)
	// Just the lowest bit is turned: of the kind 3 the kind 2 comes.
	n = New()
	n.Send([]api.Frame{numbered(1)})
	c := n.Clone()
	is(t, "Turn", c.Turn(0, 0), api.OK)
	if n.way[0][0] != 3 || c.way[0][0] != 2 || !bytes.Equal(n.way[0][1:], c.way[0][1:]) {
		t.Errorf("%x, %x", n.way[0], c.way[0])
	}
}

func TestWhatIsHandedInAndOut(t *testing.T) {
	n := New()
	f := numbered(4)
	n.Send([]api.Frame{f})
	clear(f.Body)
	has(t, n, 4)
	f, _ = n.At(0)
	clear(f.Body)
	clear(n.Tally())
	has(t, n, 4)
	counts(t, n, 1, 0, 0, 0, 0, 0)
	n.Double(0)
	f, _ = n.Deliver(0)
	clear(f.Body)
	has(t, n, 4)
}

func TestCloneGoesItsOwnWay(t *testing.T) {
	n := of(1, 2, 3)
	n.Drop(0)
	c, d := n.Clone(), n.Clone()
	n.Turn(0, 3)
	n.Send([]api.Frame{numbered(5)})
	n.Drop(1)
	c.Send([]api.Frame{numbered(6)})
	c.Double(0)
	c.Turn(1, 1)
	has(t, n, -2, 5)
	has(t, c, 2, -3, 6, 2)
	has(t, d, 2, 3)
	counts(t, n, 4, 0, 0, 0, 2, 0)
	counts(t, c, 4, 0, 0, 0, 1, 1)
	counts(t, d, 3, 0, 0, 0, 1, 0)
	has(t, New().Clone())
}

// P21.3

func TestWhatBecomesOfAll(t *testing.T) {
	r := rand.New(rand.NewSource(29))
	for range 50 {
		n := New()
		var want []int
		var tally [6]int
		for x := range 300 {
			i := r.Intn(len(want)+2) - 1
			there := i >= 0 && i < len(want)
			err := api.OK
			switch kind := r.Intn(6); {
			case kind < 2:
				n.Send([]api.Frame{numbered(x)})
				want = append(want, x)
				tally[0]++
				there = true
			case kind == 2:
				_, err = n.Deliver(i)
				if there && want[i] < 0 {
					is(t, "Deliver", err, api.ErrCorrupt)
					tally[3]++
					err = api.OK
				} else if there {
					tally[2]++
				}
				if there {
					want = slices.Delete(want, i, i+1)
				}
			case kind == 3:
				err = n.Drop(i)
				if there {
					want = slices.Delete(want, i, i+1)
					tally[4]++
				}
			case kind == 4:
				err = n.Double(i)
				if there {
					want = append(want, want[i])
					tally[5]++
				}
			case kind == 5:
				err = n.Turn(i, 18)
				if there {
					want[i] = -1 - want[i]
				}
			}
			if there != (err == api.OK) {
				t.Fatalf("%d", err)
			}
			has(t, n, want...)
			counts(t, n, tally[:]...)
			if tally[0]+tally[5] != n.Len()+tally[2]+tally[3]+tally[4] {
				t.Fatalf("%d on their way, and %v", n.Len(), tally)
			}
		}
	}
}
