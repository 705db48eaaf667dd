// Package ident is layer 1: names of vertices, edges, darts: see shared/doc/01-ident.md.
package ident

import (
	"bytes"
	"cmp"

	"tracery/api"
)

// size is how many bytes a name has.
const size = 4

// May tells whether a name may be.
func May(x api.ID) bool {
	return maySite(x.Site) && 1 <= x.N && x.N <= api.MaxCount
}

func maySite(site int) bool { return 1 <= site && site <= api.MaxSites }

// Order tells which of two names stands ahead: -1 the first, 1 the second, 0 if they are the same.
func Order(a, b api.ID) int {
	if a == b {
		return 0
	}
	if a.Site != b.Site {
		return cmp.Compare(a.Site, b.Site)
	}
	return cmp.Compare(a.N, b.N)
}

// MayDart tells whether a dart may be.
func MayDart(d api.Dart) bool {
	return May(d.Edge) && (d.Side == 0 || d.Side == 1)
}

// OrderDart tells which of two darts stands ahead, as Order does of names.
func OrderDart(a, b api.Dart) int {
	if a.Edge != b.Edge {
		return Order(a.Edge, b.Edge)
	}
	return cmp.Compare(a.Side, b.Side)
}

// Other is the dart at the other end of the edge.
func Other(d api.Dart) api.Dart {
	return api.Dart{Edge: d.Edge, Side: 1 - d.Side}
}

// Put lays a name that may be down behind b.
func Put(b []byte, x api.ID) []byte {
	// A new list: the spare room behind b's end is the caller's.
	out := make([]byte, 0, len(b)+size)
	out = append(out, b...)
	return append(out, byte(x.Site), byte(x.N>>16), byte(x.N>>8), byte(x.N))
}

// Take takes the name that b begins with, and tells what is behind it.
func Take(b []byte) (api.ID, []byte, bool) {
	x := first(b)
	if !May(x) {
		return api.ID{}, bytes.Clone(b), false
	}
	return x, bytes.Clone(b[size:]), true
}

// first reads the name that b begins with, whether it may be or not; too few bytes are a zero name, which may not be.
func first(b []byte) api.ID {
	if len(b) < size {
		return api.ID{}
	}
	return api.ID{Site: int(b[0]), N: int(b[1])<<16 | int(b[2])<<8 | int(b[3])}
}

// Next is a new name of a site: behind all of its names in l. A zero name is none.
func Next(l []api.ID, site int) api.ID {
	x := api.ID{Site: site, N: greatest(l, site) + 1}
	if !May(x) {
		return api.ID{}
	}
	return x
}

// greatest is the greatest count of the site's names in l that may be, 0 without one.
func greatest(l []api.ID, site int) int {
	n := 0
	for _, x := range l {
		if x.Site == site && May(x) {
			n = max(n, x.N)
		}
	}
	return n
}
