package tally

import (
	"math"
	"math/rand"
	"slices"
	"sync"
	"testing"

	"tracery/api"
)

const most = 1 << 40

// add adds, and asks for the error that is wanted.
func add(t *testing.T, y *Tally, kind, n int, want api.Errno) {
	t.Helper()
	if got := y.Add(kind, n); got != want {
		t.Errorf("Add(%d, %d) is %d, not %d", kind, n, got, want)
	}
}

// holds asks for each number, by each of the calls that tell it.
func holds(t *testing.T, y *Tally, want ...int) {
	t.Helper()
	if got := y.All(); !slices.Equal(got, want) {
		t.Errorf("All is %v, not %v", got, want)
	}
	sum := 0
	for kind, n := range want {
		if got := y.Get(kind); got != n {
			t.Errorf("Get(%d) is %d, not %d", kind, got, n)
		}
		sum += n
	}
	if got := y.Sum(); got != sum {
		t.Errorf("Sum is %d, not %d", got, sum)
	}
}

// P2.1

func TestExample(t *testing.T) {
	y := New(2)
	add(t, y, 1, 3, api.OK)
	add(t, y, 2, 1, api.ErrArg)
	if y.Sum() != 3 {
		t.Error(y.Sum())
	}
	holds(t, y, 0, 3)
}

func TestAtFirst(t *testing.T) {
	holds(t, New(0))
	holds(t, New(1), 0)
	holds(t, New(3), 0, 0, 0)
}

func TestKindsAreHeld(t *testing.T) {
	cases := map[int]int{math.MinInt: 0, -1: 0, 0: 0, 1: 1, 2: 2, 63: 63, 64: 64, 65: 64, 1000: 64, math.MaxInt: 64}
	for kinds, want := range cases {
		y := New(kinds)
		if got := len(y.All()); got != want {
			t.Errorf("New(%d) has %d kinds, not %d", kinds, got, want)
		}
		if want > 0 {
			add(t, y, want-1, 7, api.OK)
		}
		add(t, y, want, 1, api.ErrArg)
		if y.Get(want) != 0 || y.Get(want-1) != min(want, 1)*7 {
			t.Errorf("New(%d): %v", kinds, y.All())
		}
	}
}

func TestAdd(t *testing.T) {
	y := New(3)
	add(t, y, 0, 5, api.OK)
	add(t, y, 2, 0, api.OK)
	add(t, y, 2, 9, api.OK)
	add(t, y, 0, 6, api.OK)
	holds(t, y, 11, 0, 9)
}

func TestAddOfWrongArguments(t *testing.T) {
	y := New(3)
	add(t, y, 1, 4, api.OK)
	for _, kind := range []int{math.MinInt, -2, -1, 3, 4, 64, math.MaxInt} {
		for _, n := range []int{math.MinInt, -1, 0, 1, most, most + 1, math.MaxInt} {
			add(t, y, kind, n, api.ErrArg)
		}
		if got := y.Get(kind); got != 0 {
			t.Errorf("Get(%d) is %d", kind, got)
		}
	}
	for _, n := range []int{-1, -4, -most, math.MinInt, math.MinInt + 1} {
		add(t, y, 1, n, api.ErrArg)
	}
	holds(t, y, 0, 4, 0)
}

func TestAddOfTooMuch(t *testing.T) {
	y := New(2)
	for _, n := range []int{most + 1, most * 2, math.MaxInt - 1, math.MaxInt} {
		add(t, y, 0, n, api.ErrBig)
	}
	holds(t, y, 0, 0)
	add(t, y, 0, most, api.OK)
	holds(t, y, most, 0)
	add(t, y, 0, 0, api.OK)
	for _, n := range []int{1, 2, most, math.MaxInt - most, math.MaxInt} {
		add(t, y, 0, n, api.ErrBig)
	}
	add(t, y, 1, most-1, api.OK)
	add(t, y, 1, 2, api.ErrBig)
	add(t, y, 1, 1, api.OK)
	add(t, y, 1, 1, api.ErrBig)
	holds(t, y, most, most)
}

func TestSumOfTheMost(t *testing.T) {
	y := New(64)
	for kind := range 64 {
		add(t, y, kind, most, api.OK)
	}
	if y.Sum() != 64*most {
		t.Error(y.Sum())
	}
}

func TestAllIsTheCallersOwn(t *testing.T) {
	y := New(3)
	add(t, y, 1, 4, api.OK)
	l := y.All()
	l[1] = 9
	_ = append(l[:1], 7, 7)
	holds(t, y, 0, 4, 0)
}

func TestCloneGoesItsOwnWay(t *testing.T) {
	y := New(3)
	add(t, y, 0, 1, api.OK)
	add(t, y, 2, most, api.OK)
	c := y.Clone()
	holds(t, c, 1, 0, most)
	add(t, y, 1, 5, api.OK)
	add(t, c, 1, 7, api.OK)
	add(t, c, 2, 1, api.ErrBig)
	add(t, c, 3, 1, api.ErrArg)
	d := c.Clone()
	add(t, d, 0, 2, api.OK)
	holds(t, y, 1, 5, most)
	holds(t, c, 1, 7, most)
	holds(t, d, 3, 7, most)
	holds(t, New(0).Clone())
	holds(t, New(2).Clone(), 0, 0)
}

// P2.2

func TestInWhateverOrder(t *testing.T) {
	type step struct{ kind, n int }
	chance := rand.New(rand.NewSource(2))
	for range 50 {
		kinds := 1 + chance.Intn(6)
		var steps []step
		for range 30 {
			steps = append(steps, step{chance.Intn(kinds), chance.Intn(1 << chance.Intn(35))})
		}
		want := make([]int, kinds)
		for _, s := range steps {
			want[s.kind] += s.n
		}
		for range 5 {
			chance.Shuffle(len(steps), func(i, j int) { steps[i], steps[j] = steps[j], steps[i] })
			y := New(kinds)
			for _, s := range steps {
				add(t, y, s.kind, s.n, api.OK)
			}
			holds(t, y, want...)
		}
	}
}

// Several that add at once, from the first call on: nothing goes astray, and no number is above the most.
func TestAtOnce(t *testing.T) {
	y := New(2)
	add1 := func(times int, refused *int) {
		for range times {
			y.Add(0, 1)
			if y.Add(1, most/1000) == api.ErrBig {
				*refused++
			}
		}
	}
	var all sync.WaitGroup
	refused := make([]int, 8)
	for i := range refused {
		all.Go(func() { add1(500, &refused[i]) })
	}
	all.Wait()
	sum := 0
	for _, n := range refused {
		sum += n
	}
	holds(t, y, 4000, 1000*(most/1000))
	if sum != 3000 {
		t.Errorf("%d were refused", sum)
	}
}
