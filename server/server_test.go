package server

import (
	"bytes"
	"fmt"
	"math"
	"math/rand"
	"slices"
	"strings"
	"testing"

	"tracery/api"
	"tracery/edit"
	"tracery/fold"
	"tracery/frame"
	"tracery/hist"
	"tracery/op"
	"tracery/opcode"
	"tracery/pack"
)

func id(site, n int) api.ID { return api.ID{Site: site, N: n} }

func newVertex(site, n int) api.Edit {
	return api.Edit{Ops: []api.Op{{Kind: api.AddVertex, ID: id(site, n)}}}
}

func body(e api.Edit) []byte {
	b, _ := opcode.Put(nil, e)
	return b
}

func hello(site, epoch, seq int) api.Frame {
	return api.Frame{Kind: api.FrHello, From: site, Epoch: epoch, Seq: seq}
}

func data(site, epoch, seq int, e api.Edit) api.Frame {
	return api.Frame{Kind: api.FrData, From: site, Epoch: epoch, Seq: seq, Body: body(e)}
}

func ack(site, epoch, n int) api.Frame {
	return api.Frame{Kind: api.FrAck, From: site, Epoch: epoch, Ack: n}
}

// told, welcomed and acked are what a server answers.
func told(to, epoch, seq int, e api.Entry) api.Frame {
	return api.Frame{Kind: api.FrData, To: to, Epoch: epoch, Seq: seq, Body: PutEntry(e)}
}

func acked(to, epoch, n int) api.Frame {
	return api.Frame{Kind: api.FrAck, To: to, Epoch: epoch, Ack: n}
}

func welcomed(to, epoch, seq, m, last int, s api.State) api.Frame {
	snap, _ := hist.PutSnap(last, s)
	return api.Frame{Kind: api.FrWelcome, To: to, Epoch: epoch, Seq: seq, Body: append(pack.Num(nil, m), snap...)}
}

func same(a, b api.Frame) bool {
	return bytes.Equal(a.Body, b.Body) && a.Kind == b.Kind && a.From == b.From && a.To == b.To && a.Epoch == b.Epoch && a.Seq == b.Seq && a.Ack == b.Ack
}

// takes asks for what is answered.
func takes(t *testing.T, s *Server, f api.Frame, want ...api.Frame) {
	t.Helper()
	got, err := s.Take(f)
	if err != api.OK || !slices.EqualFunc(got, want, same) {
		t.Fatalf("Take of %+v is\n%+v, %d, not\n%+v", f, got, err, want)
	}
	for _, f := range got {
		if frame.May(f) != api.OK {
			t.Errorf("%+v may not be", f)
		}
	}
}

// refuses asks for the error, and that nothing changes.
func refuses(t *testing.T, s *Server, f api.Frame, want api.Errno) {
	t.Helper()
	was := digest(s)
	got, err := s.Take(f)
	if err != want || got != nil {
		t.Fatalf("Take of %+v is %+v, %d, not %d", f, got, err, want)
	}
	if digest(s) != was {
		t.Fatalf("Take of %+v tells %d, and changes something", f, err)
	}
}

// digest is all that a server tells.
func digest(s *Server) string {
	l := fmt.Sprintf("%d %x\n%+v\n%+v\n", s.Last(), fold.Bytes(s.State()), s.Log(), s.Tick())
	for site := range api.MaxSites + 2 {
		l += fmt.Sprintf("%d: %d %d\n", site, s.Epoch(site), s.Got(site))
	}
	return l
}

func logged(t *testing.T, s *Server, want ...api.Entry) {
	t.Helper()
	got := s.Log()
	if !slices.EqualFunc(got, want, func(a, b api.Entry) bool {
		return a.Site == b.Site && a.Seq == b.Seq && op.Same(a.Edit, b.Edit)
	}) {
		t.Fatalf("the log is %+v, not %+v", got, want)
	}
	if s.Last() != len(want) {
		t.Errorf("Last is %d", s.Last())
	}
	var edits []api.Edit
	for _, e := range want {
		edits = append(edits, e.Edit)
	}
	if !fold.Equal(s.State(), fold.All(edit.Empty(), edits)) {
		t.Errorf("State is %+v", s.State())
	}
}

// P19.1

func TestPutEntry(t *testing.T) {
	for _, c := range []struct {
		e    api.Entry
		want string
	}{
		{api.Entry{Site: 1, Seq: 1, Edit: newVertex(2, 258)}, "\x01\x00\x00\x00\x00\x00\x00\x00\x01\x01\x01\x02\x00\x01\x02"},
		{api.Entry{Site: 8, Seq: math.MaxInt, Edit: api.Edit{Ops: append(newVertex(1, 1).Ops, newVertex(1, 2).Ops...)}}, "\x08\x7f\xff\xff\xff\xff\xff\xff\xff\x02\x01\x01\x00\x00\x01\x01\x01\x00\x00\x02"},
	} {
		if got := PutEntry(c.e); string(got) != c.want {
			t.Errorf("%+v: %x, not %x", c.e, got, c.want)
		}
		got, err := TakeEntry([]byte(c.want))
		if err != api.OK || got.Site != c.e.Site || got.Seq != c.e.Seq || !op.Same(got.Edit, c.e.Edit) {
			t.Errorf("%x: %+v, %d", c.want, got, err)
		}
	}
	PutEntry(api.Entry{}) // not asked, but it ends
}

func TestTakeEntryOfWhatIsNone(t *testing.T) {
	const seq, vertex = "\x00\x00\x00\x00\x00\x00\x00\x01", "\x01\x01\x02\x00\x01\x02"
	takesNone := func(s string) {
		t.Helper()
		if e, err := TakeEntry([]byte(s)); err != api.ErrCorrupt || e.Site != 0 || e.Seq != 0 || e.Edit.Ops != nil {
			t.Errorf("%x: %+v, %d", s, e, err)
		}
	}
	for n := range len("\x01" + seq + vertex) {
		takesNone(("\x01" + seq + vertex)[:n])
	}
	for _, s := range []string{
		"\x01" + seq + vertex + "\x00",
		"\x00" + seq + vertex, "\x09" + seq + vertex, "\xff" + seq + vertex,
		"\x01\x00\x00\x00\x00\x00\x00\x00\x00" + vertex,
		"\x01\xff\xff\xff\xff\xff\xff\xff\xff" + vertex,
		"\x01\x80\x00\x00\x00\x00\x00\x00\x00" + vertex,
		"\x01" + seq + "\x00", "\x01" + seq + "\x01\x01\x00\x00\x01\x02", "\x01" + seq + "\x01\x09\x02\x00\x01\x02",
		strings.Repeat("\x01", 1<<16),
	} {
		takesNone(s)
	}
}

// P19.2

func TestExample(t *testing.T) {
	s := New()
	takes(t, s, hello(1, 0, 1), welcomed(1, 1, 1, 0, 0, edit.Empty()))
	e := api.Entry{Site: 1, Seq: 1, Edit: newVertex(1, 1)}
	takes(t, s, data(1, 1, 1, newVertex(1, 1)), told(1, 1, 1, e), acked(1, 1, 1))
	logged(t, s, e)
}

func TestOfWhatMayNotBe(t *testing.T) {
	s := New()
	takes(t, s, hello(1, 0, 1), welcomed(1, 1, 1, 0, 0, edit.Empty()))
	refuses(t, s, api.Frame{}, api.ErrArg)
	refuses(t, s, api.Frame{Kind: 5, From: 1}, api.ErrArg)
	refuses(t, s, api.Frame{Kind: api.FrAck, From: 0, To: 0}, api.ErrArg)
	refuses(t, s, api.Frame{Kind: api.FrAck, From: 9, To: 0, Epoch: 1}, api.ErrArg)
	refuses(t, s, api.Frame{Kind: api.FrHello, From: 1, Seq: 1<<30 + 1}, api.ErrArg)
	refuses(t, s, api.Frame{Kind: api.FrData, From: 1, Epoch: 1, Seq: 1, Body: make([]byte, api.MaxFrame+1)}, api.ErrBig)
	refuses(t, s, api.Frame{Kind: api.FrData, From: 1, To: 2, Epoch: 1, Seq: 1, Body: make([]byte, api.MaxFrame+1)}, api.ErrBig)
	for kind := api.FrHello; kind <= api.FrAck; kind++ {
		refuses(t, s, api.Frame{Kind: kind, From: 1, To: 2, Epoch: 1, Seq: 2}, api.ErrSite)
		refuses(t, s, api.Frame{Kind: kind, From: 0, To: 1, Epoch: 1, Seq: 2}, api.ErrSite)
	}
	refuses(t, s, api.Frame{Kind: api.FrWelcome, From: 1, Epoch: 1, Seq: 1}, api.ErrArg)
	refuses(t, s, api.Frame{Kind: api.FrWelcome, From: 2}, api.ErrArg)
}

func TestHello(t *testing.T) {
	s := New()
	refuses(t, s, hello(3, 0, 0), api.ErrOrder)
	first := welcomed(3, 1, 5, 0, 0, edit.Empty())
	takes(t, s, hello(3, 0, 5), first)
	refuses(t, s, hello(3, 0, 4), api.ErrOrder)
	refuses(t, s, hello(3, 1, 0), api.ErrOrder)
	takes(t, s, data(3, 1, 1, newVertex(3, 1)), told(3, 1, 1, api.Entry{Site: 3, Seq: 1, Edit: newVertex(3, 1)}), acked(3, 1, 1))
	// The same attempt has the same Welcome, and the session goes on.
	takes(t, s, hello(3, 0, 5), first)
	takes(t, s, hello(3, 77, 5), first)
	if s.Epoch(3) != 1 || s.Got(3) != 1 {
		t.Errorf("epoch %d, got %d", s.Epoch(3), s.Got(3))
	}
	one := s.State()
	takes(t, s, hello(8, 0, 1), welcomed(8, 2, 1, 0, 1, one))
	takes(t, s, hello(3, 1, 6), welcomed(3, 3, 6, 1, 1, one))
	if s.Epoch(3) != 3 || s.Got(3) != 0 || s.Epoch(8) != 2 {
		t.Errorf("epochs %d, %d, got %d", s.Epoch(3), s.Epoch(8), s.Got(3))
	}
	// Of that which is over it is known yet how many came; of one that never was none came.
	takes(t, s, hello(3, 1, 7), welcomed(3, 4, 7, 1, 1, one))
	takes(t, s, hello(3, 3, 8), welcomed(3, 5, 8, 0, 1, one))
	takes(t, s, hello(3, 0, 9), welcomed(3, 6, 9, 0, 1, one))
	takes(t, s, hello(3, 99, 10), welcomed(3, 7, 10, 0, 1, one))
	takes(t, s, hello(3, 1, 1<<30), welcomed(3, 8, 1<<30, 1, 1, one))
	refuses(t, s, hello(3, 8, 1<<30-1), api.ErrOrder)
	// Another site's session is another's.
	takes(t, s, hello(8, 1, 2), welcomed(8, 9, 2, 0, 1, one))
}

func TestHelloTellsWhatCameInItsTurn(t *testing.T) {
	s := New()
	takes(t, s, hello(1, 0, 1), welcomed(1, 1, 1, 0, 0, edit.Empty()))
	takes(t, s, data(1, 1, 2, newVertex(1, 2)), acked(1, 1, 0))
	takes(t, s, data(1, 1, 3, newVertex(1, 3)), acked(1, 1, 0))
	s2 := s.Clone()
	takes(t, s, hello(1, 1, 2), welcomed(1, 2, 2, 0, 0, edit.Empty()))
	s2.Take(data(1, 1, 1, newVertex(1, 1)))
	takes(t, s2, hello(1, 1, 2), welcomed(1, 2, 2, 3, 3, s2.State()))
	// What was held in a session that is over is not told in the next one.
	takes(t, s, data(1, 2, 1, newVertex(1, 9)), told(1, 2, 1, api.Entry{Site: 1, Seq: 1, Edit: newVertex(1, 9)}), acked(1, 2, 1))
	logged(t, s, api.Entry{Site: 1, Seq: 1, Edit: newVertex(1, 9)})
}

func TestData(t *testing.T) {
	s := New()
	takes(t, s, hello(2, 0, 1), welcomed(2, 1, 1, 0, 0, edit.Empty()))
	takes(t, s, hello(1, 0, 1), welcomed(1, 2, 1, 0, 0, edit.Empty()))
	a, b, c, d := newVertex(2, 1), newVertex(2, 2), newVertex(2, 3), newVertex(1, 1)
	ea, eb, ec := api.Entry{Site: 2, Seq: 1, Edit: a}, api.Entry{Site: 2, Seq: 2, Edit: b}, api.Entry{Site: 2, Seq: 3, Edit: c}
	ed := api.Entry{Site: 1, Seq: 1, Edit: d}
	takes(t, s, data(2, 1, 3, c), acked(2, 1, 0))
	refuses(t, s, data(2, 1, 3, c), api.ErrOrder)
	logged(t, s)
	takes(t, s, data(2, 1, 1, a), told(1, 2, 1, ea), told(2, 1, 1, ea), acked(2, 1, 1))
	takes(t, s, data(1, 2, 1, d), told(1, 2, 2, ed), told(2, 1, 2, ed), acked(1, 2, 1))
	takes(t, s, data(2, 1, 2, b), told(1, 2, 3, eb), told(2, 1, 3, eb), told(1, 2, 4, ec), told(2, 1, 4, ec), acked(2, 1, 3))
	logged(t, s, ea, ed, eb, ec)
	// What came already is acknowledged again, and no more.
	for seq := range 4 {
		takes(t, s, data(2, 1, seq, newVertex(2, 9)), acked(2, 1, 3))
	}
	refuses(t, s, data(2, 1, 12, a), api.ErrOrder)
	takes(t, s, data(2, 1, 11, a), acked(2, 1, 3))
	logged(t, s, ea, ed, eb, ec)
}

func TestDataThatIsRefused(t *testing.T) {
	s := New()
	refuses(t, s, data(1, 0, 1, newVertex(1, 1)), api.ErrJoined)
	takes(t, s, hello(1, 0, 1), welcomed(1, 1, 1, 0, 0, edit.Empty()))
	takes(t, s, hello(2, 0, 1), welcomed(2, 2, 1, 0, 0, edit.Empty()))
	refuses(t, s, data(3, 1, 1, newVertex(1, 1)), api.ErrJoined)
	for _, epoch := range []int{0, 2, 3, 1 << 30} {
		refuses(t, s, data(1, epoch, 1, newVertex(1, 1)), api.ErrEpoch)
	}
	for _, b := range [][]byte{nil, {0}, body(newVertex(1, 1))[:5], append(body(newVertex(1, 1)), 0), PutEntry(api.Entry{Site: 1, Seq: 1, Edit: newVertex(1, 1)})} {
		bad := api.Frame{Kind: api.FrData, From: 1, Epoch: 1, Seq: 1, Body: b}
		refuses(t, s, bad, api.ErrCorrupt)
		bad.Seq = 0
		refuses(t, s, bad, api.ErrCorrupt)
		bad.Seq = 99
		refuses(t, s, bad, api.ErrCorrupt)
		bad.Epoch = 2
		refuses(t, s, bad, api.ErrEpoch)
		bad.From = 3
		refuses(t, s, bad, api.ErrJoined)
	}
	refuses(t, s, data(1, 1, 9, newVertex(1, 1)), api.ErrOrder)
	takes(t, s, data(1, 1, 8, newVertex(1, 1)), acked(1, 1, 0))
	takes(t, s, data(1, 1, 0, newVertex(1, 1)), acked(1, 1, 0))
	if s.Evict(1) != api.OK {
		t.Error("Evict")
	}
	refuses(t, s, data(1, 1, 1, newVertex(1, 1)), api.ErrJoined)
	refuses(t, s, data(1, 2, 1, newVertex(1, 1)), api.ErrJoined)
}

func TestAck(t *testing.T) {
	s := New()
	refuses(t, s, ack(1, 0, 0), api.ErrJoined)
	takes(t, s, hello(1, 0, 1), welcomed(1, 1, 1, 0, 0, edit.Empty()))
	takes(t, s, ack(1, 1, 0))
	refuses(t, s, ack(1, 1, 1), api.ErrOrder)
	refuses(t, s, ack(1, 0, 0), api.ErrEpoch)
	refuses(t, s, ack(2, 1, 0), api.ErrJoined)
	for n := range 3 {
		s.Take(data(1, 1, n+1, newVertex(1, n+1)))
	}
	takes(t, s, ack(1, 1, 2))
	refuses(t, s, ack(1, 1, 1), api.ErrOrder)
	refuses(t, s, ack(1, 1, 4), api.ErrOrder)
	refuses(t, s, ack(1, 2, 3), api.ErrEpoch)
	if got := s.Tick(); len(got) != 1 || !same(got[0], told(1, 1, 3, api.Entry{Site: 1, Seq: 3, Edit: newVertex(1, 3)})) {
		t.Errorf("Tick is %+v", got)
	}
	takes(t, s, ack(1, 1, 3))
	if got := s.Tick(); len(got) != 0 {
		t.Errorf("Tick is %+v", got)
	}
	s.Evict(1)
	refuses(t, s, ack(1, 1, 3), api.ErrJoined)
}

// A site whose sender is full is told no more, and the history is compacted when it is full.
func TestFull(t *testing.T) {
	s := New()
	takes(t, s, hello(1, 0, 1), welcomed(1, 1, 1, 0, 0, edit.Empty()))
	takes(t, s, hello(2, 0, 1), welcomed(2, 2, 1, 0, 0, edit.Empty()))
	var all []api.Entry
	for n := 1; n <= 200; n++ {
		e := api.Entry{Site: 2, Seq: n, Edit: newVertex(2, n)}
		all = append(all, e)
		want := []api.Frame{told(2, 2, n, e), acked(2, 2, n)}
		if n <= 64 {
			want = append([]api.Frame{told(1, 1, n, e)}, want...)
		}
		takes(t, s, data(2, 2, n, e.Edit), want...)
		takes(t, s, ack(2, 2, n))
		if (s.Epoch(1) == 1) != (n <= 64) || s.Epoch(2) != 2 {
			t.Fatalf("at %d the epochs are %d and %d", n, s.Epoch(1), s.Epoch(2))
		}
	}
	logged(t, s, all...)
	refuses(t, s, ack(1, 1, 1), api.ErrJoined)
	takes(t, s, hello(1, 1, 2), welcomed(1, 3, 2, 0, 200, s.State()))
}

// A site may itself be told no more in the midst of its own edits: they are all serialised, and it has no FrAck.
func TestFullInTheMidst(t *testing.T) {
	s := New()
	takes(t, s, hello(1, 0, 1), welcomed(1, 1, 1, 0, 0, edit.Empty()))
	for n := 1; n <= 62; n++ {
		s.Take(data(1, 1, n, newVertex(1, n)))
	}
	for n := 64; n <= 66; n++ {
		takes(t, s, data(1, 1, n, newVertex(1, n)), acked(1, 1, 62))
	}
	e63, e64 := api.Entry{Site: 1, Seq: 63, Edit: newVertex(1, 63)}, api.Entry{Site: 1, Seq: 64, Edit: newVertex(1, 64)}
	takes(t, s, data(1, 1, 63, newVertex(1, 63)), told(1, 1, 63, e63), told(1, 1, 64, e64))
	if s.Last() != 66 || s.Got(1) != 66 || s.Epoch(1) != 0 || len(s.Tick()) != 0 {
		t.Errorf("Last %d, Got %d, Epoch %d", s.Last(), s.Got(1), s.Epoch(1))
	}
	takes(t, s, hello(1, 1, 2), welcomed(1, 2, 2, 66, 66, s.State()))
}

// P19.3

func TestTick(t *testing.T) {
	s := New()
	if got := s.Tick(); len(got) != 0 {
		t.Errorf("at first: %+v", got)
	}
	s.Take(hello(5, 0, 1))
	a, b := api.Entry{Site: 5, Seq: 1, Edit: newVertex(5, 1)}, api.Entry{Site: 5, Seq: 2, Edit: newVertex(5, 2)}
	s.Take(data(5, 1, 1, a.Edit))
	s.Take(hello(2, 0, 1))
	s.Take(data(5, 1, 2, b.Edit))
	want := []api.Frame{told(2, 2, 1, b), told(5, 1, 1, a), told(5, 1, 2, b)}
	for range 2 {
		if got := s.Tick(); !slices.EqualFunc(got, want, same) {
			t.Errorf("%+v, not %+v", got, want)
		}
	}
	s.Evict(5)
	if got := s.Tick(); !slices.EqualFunc(got, want[:1], same) {
		t.Errorf("%+v, not %+v", got, want[:1])
	}
}

func TestEvict(t *testing.T) {
	s := New()
	for _, site := range []int{math.MinInt, -1, 0, 9, math.MaxInt} {
		if got := s.Evict(site); got != api.ErrSite {
			t.Errorf("of %d: %d", site, got)
		}
		if s.Epoch(site) != 0 || s.Got(site) != 0 {
			t.Errorf("of %d there is something", site)
		}
	}
	for site := 1; site <= 8; site++ {
		if got := s.Evict(site); got != api.ErrJoined {
			t.Errorf("of %d: %d", site, got)
		}
		s.Take(hello(site, 0, 1))
	}
	s.Take(data(4, 4, 1, newVertex(4, 1)))
	for site := 1; site <= 8; site++ {
		if s.Epoch(site) != site {
			t.Errorf("the epoch of %d is %d", site, s.Epoch(site))
		}
	}
	if s.Evict(4) != api.OK || s.Evict(4) != api.ErrJoined || s.Epoch(4) != 0 || s.Got(4) != 1 || s.Epoch(5) != 5 {
		t.Errorf("epochs %d, %d, got %d", s.Epoch(4), s.Epoch(5), s.Got(4))
	}
	// The Welcome of the attempt is told again, but that is all.
	takes(t, s, hello(4, 0, 1), welcomed(4, 4, 1, 0, 0, edit.Empty()))
	if s.Epoch(4) != 0 {
		t.Error("it is joined again")
	}
	takes(t, s, hello(4, 4, 2), welcomed(4, 9, 2, 1, 1, s.State()))
}

func TestWhatIsHandedInAndOut(t *testing.T) {
	s := New()
	s.Take(hello(1, 0, 1))
	s.Take(hello(2, 0, 1))
	spoil := func(l []api.Frame) {
		for _, f := range l {
			clear(f.Body)
			_ = append(f.Body, "more"...)
		}
		clear(l)
	}
	held := data(1, 1, 2, newVertex(1, 2))
	out, _ := s.Take(held)
	clear(held.Body)
	spoil(out)
	was := digest(s)
	first := data(1, 1, 1, newVertex(1, 1))
	c := s.Clone()
	for _, s := range []*Server{s, c} {
		if digest(s) != was {
			t.Error("it changed with what was handed in, or out")
		}
		out, _ = s.Take(first)
		b := bytes.Clone(out[1].Body)
		clear(out[0].Body)
		if !bytes.Equal(out[1].Body, b) {
			t.Error("two frames of an answer share memory")
		}
		spoil(out)
	}
	clear(first.Body)
	e := []api.Entry{{Site: 1, Seq: 1, Edit: newVertex(1, 1)}, {Site: 1, Seq: 2, Edit: newVertex(1, 2)}}
	for range 2 {
		logged(t, s, e...)
		logged(t, c, e...)
		spoil(s.Tick())
		l := s.Log()
		clear(l[0].Edit.Ops)
		_ = append(l, api.Entry{})
		clear(l)
		st := s.State()
		clear(st.D.Verts)
		w, _ := s.Take(hello(2, 0, 1))
		spoil(w)
	}
	takes(t, s, hello(2, 0, 1), welcomed(2, 2, 1, 0, 0, edit.Empty()))
	if digest(s) != digest(c) {
		t.Error("it changed with what was handed out")
	}
}

func TestCloneGoesItsOwnWay(t *testing.T) {
	s := New()
	s.Take(hello(1, 0, 1))
	s.Take(data(1, 1, 1, newVertex(1, 1)))
	s.Take(hello(1, 1, 2))
	s.Take(data(1, 2, 1, newVertex(1, 2)))
	s.Take(data(1, 2, 3, newVertex(1, 4)))
	c := s.Clone()
	was := digest(s)
	if digest(c) != was {
		t.Fatalf("%s, not %s", digest(c), was)
	}
	steps := []api.Frame{data(1, 2, 2, newVertex(1, 3)), hello(2, 0, 1), ack(1, 2, 1), hello(1, 2, 3), data(1, 4, 1, newVertex(1, 9)), hello(1, 1, 4)}
	for _, f := range steps {
		if _, err := c.Take(f); err != api.OK {
			t.Fatalf("%+v: %d", f, err)
		}
	}
	c.Evict(1)
	if digest(s) != was {
		t.Fatal("what was done of the clone is seen")
	}
	d := s.Clone()
	for _, f := range steps {
		if _, err := s.Take(f); err != api.OK {
			t.Fatalf("%+v: %d", f, err)
		}
	}
	s.Evict(1)
	if digest(s) != digest(c) || digest(d) != was {
		t.Fatal("what was done is seen by the clone, or comes to something else")
	}
	takes(t, d, hello(1, 1, 3), welcomed(1, 3, 3, 1, 2, d.State()))
	if digest(New().Clone()) != digest(New()) {
		t.Error("the clone of a new one")
	}
}

// P19.4

// Any frames: State is the fold of Log, and of each epoch of a site its edits are serialised once, in order.
func TestAnyFrames(t *testing.T) {
	r := rand.New(rand.NewSource(26))
	for range 6 {
		s := New()
		epochs := map[int][3]int{} // by epoch: its site, what was issued, what was serialised
		logs := 0
		for range 400 {
			site := 1 + r.Intn(3)
			f := api.Frame{Kind: 1 + r.Intn(4), From: site, Epoch: s.Epoch(site), Seq: s.Got(site) + r.Intn(6) - 1, Ack: r.Intn(9)}
			switch {
			case f.Kind == api.FrHello && r.Intn(10) > 0:
				f.Kind = api.FrData
			case f.Kind == api.FrHello:
				f.Seq = r.Intn(40)
				f.Epoch = r.Intn(8)
			}
			if f.Kind == api.FrData {
				f.Body = body(newVertex(site, 1+f.Seq%20+r.Intn(2)))
			}
			if r.Intn(20) == 0 {
				f.Epoch = r.Intn(5)
			}
			if r.Intn(20) == 0 {
				f.Body = append(f.Body, byte(r.Intn(256)))
			}
			f.Seq, f.Ack = max(f.Seq, 0), max(f.Ack, 0)
			was, before := digest(s), s.Clone()
			epoch, got := s.Epoch(site), s.Got(site)
			out, err := s.Take(f)
			if err != api.OK {
				if digest(s) != was || out != nil {
					t.Fatalf("%+v: %d, and something changed", f, err)
				}
				continue
			}
			if digest(before) != was {
				t.Fatalf("%+v is seen by a clone", f)
			}
			for _, f := range out {
				if frame.May(f) != api.OK || f.From != 0 {
					t.Fatalf("%+v may not be", f)
				}
			}
			all := s.Log()
			for i, e := range all[logs:] {
				if e.Site != site || e.Seq != got+1+i || f.Kind != api.FrData {
					t.Fatalf("%+v: the entries %+v", f, all[logs:])
				}
				n := epochs[epoch]
				if n[0] != 0 && n[0] != site || n[2]+1 != e.Seq {
					t.Fatalf("epoch %d: %v, and then %+v", epoch, n, e)
				}
				epochs[epoch] = [3]int{site, 0, e.Seq}
			}
			logs = len(all)
		}
		logged(t, s, s.Log()...)
		if logs < 30 {
			t.Errorf("only %d were serialised", logs)
		}
	}
}
