package receiver

import (
	"math"
	"math/rand"
	"slices"
	"strings"
	"testing"

	"tracery/api"
)

// takes asks for what is in its turn then.
func takes(t *testing.T, r *Receiver, seq int, b string, want ...string) {
	t.Helper()
	got, err := r.Take(seq, []byte(b))
	if err != api.OK || !slices.EqualFunc(got, want, func(b []byte, s string) bool { return string(b) == s }) {
		t.Errorf("Take of %d is %q, %d, not %q", seq, got, err, want)
	}
}

func refuses(t *testing.T, r *Receiver, seq int) {
	t.Helper()
	if got, err := r.Take(seq, []byte("refused")); got != nil || err != api.ErrOrder {
		t.Errorf("Take of %d is %q, %d", seq, got, err)
	}
}

// has asks up to where it got, and what it holds.
func has(t *testing.T, r *Receiver, got int, held ...int) {
	t.Helper()
	if r.Got() != got || !slices.Equal(r.Held(), held) {
		t.Errorf("it got %d and holds %v, not %d and %v", r.Got(), r.Held(), got, held)
	}
}

// P17.1

func TestExample(t *testing.T) {
	r := New(5)
	takes(t, r, 2, "b")
	refuses(t, r, 2)
	takes(t, r, 1, "a", "a", "b")
	has(t, r, 2)
}

func TestInOrder(t *testing.T) {
	r := New(1)
	has(t, r, 0)
	for seq := 1; seq < 100; seq++ {
		refuses(t, r, seq-1)
		refuses(t, r, seq+1)
		s := strings.Repeat("x", seq)
		takes(t, r, seq, s, s)
		has(t, r, seq)
	}
}

func TestGaps(t *testing.T) {
	r := New(6)
	takes(t, r, 6, "f")
	takes(t, r, 3, "c")
	takes(t, r, 4, "")
	has(t, r, 0, 3, 4, 6)
	takes(t, r, 1, "a", "a")
	has(t, r, 1, 3, 4, 6)
	takes(t, r, 7, "g")
	refuses(t, r, 8)
	takes(t, r, 2, "b", "b", "c", "")
	has(t, r, 4, 6, 7)
	takes(t, r, 5, "e", "e", "f", "g")
	has(t, r, 7)
}

func TestOutOfOrder(t *testing.T) {
	r := New(3)
	for _, seq := range []int{math.MinInt, -1, 0, 4, 5, 64, 65, math.MaxInt} {
		refuses(t, r, seq)
	}
	has(t, r, 0)
	takes(t, r, 1, "a", "a")
	takes(t, r, 4, "d")
	takes(t, r, 3, "c")
	for _, seq := range []int{math.MinInt, -1, 0, 1, 3, 4, 5, math.MaxInt} {
		refuses(t, r, seq)
	}
	has(t, r, 1, 3, 4)
	takes(t, r, 2, "b", "b", "c", "d")
	refuses(t, r, 2)
}

func TestWindowIsHeld(t *testing.T) {
	for window, want := range map[int]int{math.MinInt: 1, -1: 1, 0: 1, 1: 1, 2: 2, 8: 8, 63: 63, 64: 64, 65: 64, 1000: 64, math.MaxInt: 64} {
		r := New(window)
		refuses(t, r, want+1)
		for seq := want; seq > 1; seq-- {
			takes(t, r, seq, "x")
		}
		takes(t, r, 1, "x", slices.Repeat([]string{"x"}, want)...)
		has(t, r, want)
		refuses(t, r, 2*want+1)
	}
}

func TestWhatIsHandedInAndOut(t *testing.T) {
	r := New(3)
	b := []byte("abc")
	takes(t, r, 2, "")
	if _, err := r.Take(3, b[:2]); err != api.OK {
		t.Error(err)
	}
	copy(b, "xyz")
	c := r.Clone()
	got, _ := r.Take(1, b)
	if len(got) != 3 || string(got[0]) != "xyz" || string(got[2]) != "ab" {
		t.Errorf("%q", got)
	}
	_ = append(got[0], "more"...)
	clear(got[0])
	clear(got[2])
	if string(b) != "xyz" {
		t.Error("what was handed in changed with the answer")
	}
	takes(t, c, 1, "1", "1", "", "ab")
	clear(r.Held())
	has(t, r, 3)
}

func TestCloneGoesItsOwnWay(t *testing.T) {
	r := New(3)
	takes(t, r, 1, "a", "a")
	takes(t, r, 3, "c")
	c, d := r.Clone(), r.Clone()
	takes(t, r, 2, "r", "r", "c")
	takes(t, c, 4, "d")
	refuses(t, c, 5)
	takes(t, c, 2, "b", "b", "c", "d")
	has(t, r, 3)
	has(t, c, 4)
	has(t, d, 1, 3)
	takes(t, d, 2, "e", "e", "c")
	has(t, New(2).Clone(), 0)
}

// P17.2

// Whatever comes, in whatever order and however often: each is told once, in its turn.
func TestEachOnceInItsTurn(t *testing.T) {
	chance := rand.New(rand.NewSource(22))
	body := func(seq int) string { return strings.Repeat("b", (seq+7)%7) + string([]byte{byte(seq)}) }
	for range 200 {
		window := 1 + chance.Intn(8)
		r := New(window)
		var told []string
		came := map[int]bool{}
		for range 200 {
			seq := r.Got() - 2 + chance.Intn(window+5)
			got := r.Got()
			fits := seq > got && seq <= got+window && !came[seq]
			turn, err := r.Take(seq, []byte(body(seq)))
			if fits != (err == api.OK) || !fits && err != api.ErrOrder {
				t.Fatalf("Take of %d, of %d and %d: %d", seq, got, window, err)
			}
			if fits {
				came[seq] = true
			}
			for _, b := range turn {
				told = append(told, string(b))
			}
			if len(told) != r.Got() {
				t.Fatalf("%d are told, it got %d", len(told), r.Got())
			}
			var held []int
			for seq := r.Got() + 1; seq <= r.Got()+window; seq++ {
				if came[seq] {
					held = append(held, seq)
				}
			}
			has(t, r, r.Got(), held...)
			if came[r.Got()+1] {
				t.Fatalf("%d came, and is not told", r.Got()+1)
			}
			if chance.Intn(10) == 0 {
				r = r.Clone()
			}
		}
		for i, s := range told {
			if s != body(i+1) {
				t.Fatalf("in the turn of %d %q is told", i+1, s)
			}
		}
	}
}
