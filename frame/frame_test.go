package frame

import (
	"bytes"
	"hash/crc32"
	"math"
	"math/rand"
	"strings"
	"testing"

	"tracery/api"
)

const most = 1 << 30

// samples are frames that may be.
func samples() []api.Frame {
	return []api.Frame{
		{Kind: api.FrHello, From: 1, Seq: 1},
		{Kind: api.FrWelcome, To: 1, Epoch: 1, Seq: 1, Body: []byte("body")},
		{Kind: api.FrData, From: 8, To: 0, Epoch: 258, Seq: 3, Ack: 4, Body: []byte{0}},
		{Kind: api.FrAck, From: 0, To: 8, Epoch: most, Seq: most, Ack: most},
		{Kind: api.FrAck, From: 3, To: 4},
		{Kind: api.FrData, From: 1, To: 2, Body: bytes.Repeat([]byte{0xff}, 300)},
		{Kind: api.FrData, From: 1, To: 2, Body: bytes.Repeat([]byte{1, 2}, api.MaxFrame/2)},
	}
}

func same(a, b api.Frame) bool {
	return bytes.Equal(a.Body, b.Body) && a.Kind == b.Kind && a.From == b.From && a.To == b.To && a.Epoch == b.Epoch && a.Seq == b.Seq && a.Ack == b.Ack
}

// sealed is what stands there, with its sum behind it.
func sealed(s string) string {
	sum := crc32.ChecksumIEEE([]byte(s))
	return s + string([]byte{byte(sum), byte(sum >> 8), byte(sum >> 16), byte(sum >> 24)})
}

// P15.1

func TestSum(t *testing.T) {
	for s, want := range map[string]uint32{
		"":          0,
		"123456789": 0xCBF43926,
		"\x00":      0xD202EF8D,
		"\xff":      0xFF000000,
		"a":         0xE8B7BE43,
	} {
		if got := Sum([]byte(s)); got != want {
			t.Errorf("of %q: %x, not %x", s, got, want)
		}
	}
	if Sum(nil) != 0 {
		t.Error("of nothing")
	}
	r := rand.New(rand.NewSource(18))
	for range 300 {
		b := make([]byte, r.Intn(400))
		r.Read(b)
		if got, want := Sum(b), crc32.ChecksumIEEE(b); got != want {
			t.Errorf("of %x: %x, not %x", b, got, want)
		}
	}
}

// P15.2

func TestMay(t *testing.T) {
	for _, f := range samples() {
		if got := May(f); got != api.OK {
			t.Errorf("%+v: %d", f, got)
		}
	}
}

func TestMayOfWhatMayNotBe(t *testing.T) {
	good := api.Frame{Kind: api.FrData, From: 1, To: 2, Epoch: 3, Seq: 4, Ack: 5}
	wrong := map[string]func(*api.Frame, int){
		"Kind":  func(f *api.Frame, n int) { f.Kind = n },
		"From":  func(f *api.Frame, n int) { f.From = n },
		"To":    func(f *api.Frame, n int) { f.To = n },
		"Epoch": func(f *api.Frame, n int) { f.Epoch = n },
		"Seq":   func(f *api.Frame, n int) { f.Seq = n },
		"Ack":   func(f *api.Frame, n int) { f.Ack = n },
	}
	may := map[string]func(n int) bool{
		"Kind":  func(n int) bool { return n >= 1 && n <= 4 },
		"From":  func(n int) bool { return n >= 0 && n <= 8 && n != 2 },
		"To":    func(n int) bool { return n >= 0 && n <= 8 && n != 1 },
		"Epoch": func(n int) bool { return n >= 0 && n <= most },
		"Seq":   func(n int) bool { return n >= 0 && n <= most },
		"Ack":   func(n int) bool { return n >= 0 && n <= most },
	}
	for field, set := range wrong {
		for _, n := range []int{math.MinInt, -most, -256, -1, 0, 1, 2, 3, 4, 5, 7, 8, 9, 255, 256, 257, most - 1, most, most + 1, 1 << 32, 1<<32 + 1, math.MaxInt} {
			f := good
			set(&f, n)
			want := api.ErrArg
			if may[field](n) {
				want = api.OK
			}
			if got := May(f); got != want {
				t.Errorf("%s %d: %d, not %d", field, n, got, want)
			}
			f.Body = make([]byte, api.MaxFrame+1)
			if want == api.OK {
				want = api.ErrBig
			}
			if got := May(f); got != want {
				t.Errorf("%s %d and too much body: %d, not %d", field, n, got, want)
			}
			if b, err := Put(f); b != nil || err != want {
				t.Errorf("%s %d and too much body: Put: %d, not %d", field, n, err, want)
			}
		}
	}
	if got := May(api.Frame{}); got != api.ErrArg {
		t.Errorf("of nothing: %d", got)
	}
}

func TestPut(t *testing.T) {
	for _, c := range []struct {
		f    api.Frame
		want string
	}{
		{api.Frame{Kind: 1, From: 1, Seq: 1}, "\x01\x01\x00" + "\x00\x00\x00\x00" + "\x00\x00\x00\x01" + "\x00\x00\x00\x00"},
		{api.Frame{Kind: 3, From: 8, To: 7, Epoch: 1<<24 + 2<<16 + 3<<8 + 4, Seq: 258, Ack: most, Body: []byte("body")}, "\x03\x08\x07" + "\x01\x02\x03\x04" + "\x00\x00\x01\x02" + "\x40\x00\x00\x00" + "body"},
	} {
		if got, err := Put(c.f); string(got) != sealed(c.want) || err != api.OK {
			t.Errorf("%+v: %x, %d, not %x", c.f, got, err, sealed(c.want))
		}
	}
}

func takesNone(t *testing.T, what, s string) {
	t.Helper()
	if f, err := Take([]byte(s)); err != api.ErrCorrupt || !same(f, api.Frame{}) || f.Body != nil {
		t.Errorf("%s: Take of %.40x is %+v, %d", what, s, f, err)
	}
}

func TestTakeOfWhatIsNone(t *testing.T) {
	const good = "\x03\x01\x02" + "\x00\x00\x00\x03" + "\x00\x00\x00\x04" + "\x00\x00\x00\x05"
	if f, err := Take([]byte(sealed(good))); err != api.OK || !same(f, api.Frame{Kind: 3, From: 1, To: 2, Epoch: 3, Seq: 4, Ack: 5}) {
		t.Fatalf("%+v, %d", f, err)
	}
	for n := range len(good) {
		takesNone(t, "cut off, with its sum", sealed(good[:n]))
	}
	for n := range len(sealed(good)) {
		takesNone(t, "cut off", sealed(good)[:n])
	}
	takesNone(t, "a byte more", sealed(good)+"\x00")
	takesNone(t, "without a sum", good)
	takesNone(t, "its sum turned round", good+string([]byte{sealed(good)[18], sealed(good)[17], sealed(good)[16], sealed(good)[15]}))
	for at, bad := range map[int][]byte{0: {0, 5, 255}, 1: {2, 9, 255}, 2: {1, 9, 255}, 3: {0x41, 0x80, 0xff}, 7: {0x41, 0x80, 0xff}, 11: {0x41, 0x80, 0xff}} {
		for _, c := range bad {
			b := []byte(good)
			b[at] = c
			takesNone(t, "what may not be, with its sum", sealed(string(b)))
		}
	}
	for at := 3; at < 15; at += 4 {
		b := []byte(good)
		b[at] = 0x40
		takesNone(t, "a number too great by a little, with its sum", sealed(string(b)))
	}
	takesNone(t, "too much body, with its sum", sealed(good+strings.Repeat("x", api.MaxFrame+1)))
	takesNone(t, "much too much", strings.Repeat("\x01", 1<<20))
	takesNone(t, "nothing", "")
}

// P15.3

func TestWhatWasPutIsTaken(t *testing.T) {
	for _, f := range samples() {
		b, err := Put(f)
		if err != api.OK {
			t.Fatalf("%+v: %d", f, err)
		}
		was := bytes.Clone(b)
		got, err := Take(b)
		if err != api.OK || !same(got, f) || !bytes.Equal(b, was) {
			t.Errorf("%+v is taken as %+v, %d", f, got, err)
		}
		clear(b)
		if !same(got, f) {
			t.Error("what was taken changed with the bytes")
		}
		clear(got.Body)
		b, _ = Put(f)
		if !bytes.Equal(b, was) {
			t.Error("the frame changed with what was taken")
		}
		clear(b)
		if again, _ := Put(f); !bytes.Equal(again, was) {
			t.Error("the frame changed with its bytes")
		}
	}
}

// Bits turned within four bytes side by side: all single and double ones, and any others.
func TestWithBitsTurned(t *testing.T) {
	r := rand.New(rand.NewSource(19))
	for _, f := range samples()[:5] {
		b, _ := Put(f)
		turned := func(at int, mask [4]byte) {
			c := bytes.Clone(b)
			for i, m := range mask {
				c[at+i] ^= m
			}
			takesNone(t, "with bits turned", string(c))
		}
		for at := range len(b) - 3 {
			for i := range 32 {
				for j := range i + 1 {
					var mask [4]byte
					mask[i/8] |= 1 << (i % 8)
					mask[j/8] |= 1 << (j % 8)
					turned(at, mask)
				}
			}
			for range 50 {
				var mask [4]byte
				for mask == [4]byte{} {
					r.Read(mask[:])
				}
				turned(at, mask)
			}
		}
	}
}

func TestTakeOfAnyBytes(t *testing.T) {
	r := rand.New(rand.NewSource(20))
	taken := 0
	for range 20000 {
		b := make([]byte, 15+r.Intn(5))
		for i := range b {
			b[i] = byte(r.Intn(9))
		}
		s := sealed(string(b))
		f, err := Take([]byte(s))
		if err != api.OK {
			takesNone(t, "any bytes", s)
			continue
		}
		taken++
		if again, err := Put(f); string(again) != s || err != api.OK {
			t.Errorf("%x is taken, and laid down as %x, %d", s, again, err)
		}
	}
	if taken < 100 {
		t.Errorf("only %d were taken", taken)
	}
}
