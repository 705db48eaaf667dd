package sender

import (
	"math"
	"math/rand"
	"slices"
	"testing"

	"tracery/api"
)

func push(t *testing.T, s *Sender, b string, want int, err api.Errno) {
	t.Helper()
	if got, e := s.Push([]byte(b)); got != want || e != err {
		t.Errorf("Push of %q is %d, %d, not %d, %d", b, got, e, want, err)
	}
}

func ack(t *testing.T, s *Sender, n int, want api.Errno) {
	t.Helper()
	if got := s.Ack(n); got != want {
		t.Errorf("Ack of %d is %d, not %d", n, got, want)
	}
}

// keeps asks that just these are kept, from the number behind acked on.
func keeps(t *testing.T, s *Sender, acked int, want ...string) {
	t.Helper()
	var due []int
	for i, b := range want {
		seq := acked + 1 + i
		due = append(due, seq)
		if got, ok := s.Body(seq); string(got) != b || !ok {
			t.Errorf("Body of %d is %q, %v, not %q", seq, got, ok, b)
		}
	}
	if got := s.Due(); !slices.Equal(got, due) {
		t.Errorf("Due are %v, not %v", got, due)
	}
	if got := s.Next(); got != acked+len(want)+1 {
		t.Errorf("Next is %d, not %d", got, acked+len(want)+1)
	}
	for _, seq := range []int{math.MinInt, -1, 0, acked - 1, acked, acked + len(want) + 1, acked + len(want) + 2, math.MaxInt} {
		if got, ok := s.Body(seq); got != nil || ok {
			t.Errorf("Body of %d, which is not kept, is %q, %v", seq, got, ok)
		}
	}
}

// P16.1

func TestExample(t *testing.T) {
	s := New(2)
	push(t, s, "a", 1, api.OK)
	push(t, s, "b", 2, api.OK)
	push(t, s, "c", 0, api.ErrFull)
	ack(t, s, 1, api.OK)
	keeps(t, s, 1, "b")
}

func TestAtFirst(t *testing.T) {
	keeps(t, New(5), 0)
}

func TestWindowIsHeld(t *testing.T) {
	for window, want := range map[int]int{math.MinInt: 1, -1: 1, 0: 1, 1: 1, 2: 2, 8: 8, 63: 63, 64: 64, 65: 64, 1000: 64, math.MaxInt: 64} {
		s := New(window)
		for n := range want {
			push(t, s, "x", n+1, api.OK)
		}
		push(t, s, "x", 0, api.ErrFull)
		if got := len(s.Due()); got != want {
			t.Errorf("New(%d) keeps %d, not %d", window, got, want)
		}
		ack(t, s, 1, api.OK)
		push(t, s, "y", want+1, api.OK)
		push(t, s, "y", 0, api.ErrFull)
	}
}

func TestAck(t *testing.T) {
	s := New(4)
	ack(t, s, 0, api.OK)
	ack(t, s, 1, api.ErrOrder)
	for _, b := range []string{"a", "", "c", "d"} {
		s.Push([]byte(b))
	}
	for _, n := range []int{math.MinInt, -1, 5, 6, math.MaxInt} {
		ack(t, s, n, api.ErrOrder)
	}
	keeps(t, s, 0, "a", "", "c", "d")
	ack(t, s, 0, api.OK)
	keeps(t, s, 0, "a", "", "c", "d")
	ack(t, s, 2, api.OK)
	keeps(t, s, 2, "c", "d")
	ack(t, s, 2, api.OK)
	for _, n := range []int{1, 0, -1, 5} {
		ack(t, s, n, api.ErrOrder)
	}
	keeps(t, s, 2, "c", "d")
	push(t, s, "e", 5, api.OK)
	ack(t, s, 5, api.OK)
	keeps(t, s, 5)
	ack(t, s, 4, api.ErrOrder)
	ack(t, s, 5, api.OK)
	push(t, s, "f", 6, api.OK)
	keeps(t, s, 5, "f")
}

// P16.2

func TestWhatIsHandedInAndOut(t *testing.T) {
	s := New(4)
	b := []byte("abc")
	s.Push(b[:2])
	copy(b, "xyz")
	keeps(t, s, 0, "ab")
	got, _ := s.Body(1)
	clear(got)
	_ = append(got, "more"...)
	clear(s.Due())
	keeps(t, s, 0, "ab")
	s.Push(nil)
	keeps(t, s, 0, "ab", "")
}

func TestCloneGoesItsOwnWay(t *testing.T) {
	s := New(3)
	s.Push([]byte("a"))
	s.Push([]byte("b"))
	c, d := s.Clone(), s.Clone()
	push(t, s, "s", 3, api.OK)
	push(t, c, "c", 3, api.OK)
	push(t, c, "c", 0, api.ErrFull)
	keeps(t, s, 0, "a", "b", "s")
	keeps(t, c, 0, "a", "b", "c")
	keeps(t, d, 0, "a", "b")
	ack(t, c, 2, api.OK)
	ack(t, d, 1, api.OK)
	push(t, d, "d", 3, api.OK)
	push(t, d, "e", 4, api.OK)
	e := d.Clone()
	ack(t, e, 4, api.OK)
	keeps(t, s, 0, "a", "b", "s")
	keeps(t, c, 2, "c")
	keeps(t, d, 1, "b", "d", "e")
	keeps(t, e, 4)
	keeps(t, New(3).Clone(), 0)
}

// P16.3

func TestAgainstARow(t *testing.T) {
	r := rand.New(rand.NewSource(21))
	for range 200 {
		window := 1 + r.Intn(6)
		s := New(window)
		var all []string
		acked := 0
		for range 60 {
			switch r.Intn(4) {
			case 0, 1:
				b := string([]byte{byte(r.Intn(256)), byte(len(all))})
				if len(all)-acked < window {
					all = append(all, b)
					push(t, s, b, len(all), api.OK)
				} else {
					push(t, s, b, 0, api.ErrFull)
				}
			case 2:
				n := acked - 2 + r.Intn(window+4)
				if n >= acked && n <= len(all) {
					ack(t, s, n, api.OK)
					acked = n
				} else {
					ack(t, s, n, api.ErrOrder)
				}
			case 3:
				was := s
				s = s.Clone()
				was.Push([]byte("of the one left behind"))
				was.Ack(len(all))
			}
			keeps(t, s, acked, all[acked:]...)
		}
	}
}
