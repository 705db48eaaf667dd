package hist

import (
	"bytes"

	"tracery/api"
	"tracery/ident"
	"tracery/pack"
)

const (
	maxNumber = 1 << 30
	nameSize  = 4
	dartSize  = nameSize + 1
)

// PutSnap lays a state down, and how many edits came to it.
func PutSnap(n int, s api.State) ([]byte, api.Errno) {
	if n < 0 || n > maxNumber || !mayGone(s.Gone) {
		return nil, api.ErrArg
	}
	d, err := pack.Put(s.D)
	if err != api.OK {
		return nil, err
	}
	out := append(pack.Num(pack.Num(nil, n), len(d)), d...)
	for _, g := range s.Gone {
		out = append(append(out, ident.Put(nil, g.Dart.Edge)...), byte(g.Dart.Side))
		if g.To == (api.Dart{}) {
			out = append(out, 0)
		} else {
			out = append(append(out, byte(1+g.To.Side)), ident.Put(nil, g.To.Edge)...)
		}
	}
	return out, api.OK
}

// mayGone tells whether darts that are gone may be.
func mayGone(l []api.Gone) bool {
	if len(l) > api.MaxGone {
		return false
	}
	for i, g := range l {
		if !ident.MayDart(g.Dart) || g.To != (api.Dart{}) && !ident.MayDart(g.To) {
			return false
		}
		if i > 0 && ident.OrderDart(l[i-1].Dart, g.Dart) >= 0 {
			return false
		}
	}
	return true
}

// TakeSnap takes a state, and how many edits came to it.
func TakeSnap(b []byte) (int, api.State, api.Errno) {
	n, s, ok := readSnap(b)
	if !ok {
		return 0, api.State{}, api.ErrCorrupt
	}
	// What was read otherwise than PutSnap lays it down was none.
	again, err := PutSnap(n, s)
	if err != api.OK || !bytes.Equal(again, b) {
		return 0, api.State{}, api.ErrCorrupt
	}
	return n, s, api.OK
}

// readSnap reads what may be a snapshot, false if there are too few bytes.
func readSnap(b []byte) (int, api.State, bool) {
	var s api.State
	n, rest, _ := pack.TakeNum(b)
	size, rest, ok := pack.TakeNum(rest)
	if !ok || size < 0 || size > len(rest) {
		return 0, s, false
	}
	d, err := pack.Take(rest[:size])
	if err != api.OK {
		return 0, s, false
	}
	s.D, rest = d, rest[size:]
	for len(rest) > 0 {
		var g api.Gone
		if g, rest, ok = readGone(rest); !ok {
			return 0, s, false
		}
		s.Gone = append(s.Gone, g)
	}
	return n, s, true
}

// readGone reads a dart that is gone, and what is told of it, and tells what is behind it.
func readGone(b []byte) (api.Gone, []byte, bool) {
	var g api.Gone
	if len(b) <= dartSize {
		return g, b, false
	}
	g.Dart.Edge, _, _ = ident.Take(b[:nameSize])
	g.Dart.Side = int(b[nameSize])
	b = b[dartSize:]
	if b[0] == 0 {
		return g, b[1:], true
	}
	if len(b) < dartSize {
		return g, b, false
	}
	g.To.Side = int(b[0]) - 1
	g.To.Edge, _, _ = ident.Take(b[1:dartSize])
	return g, b[dartSize:], true
}
