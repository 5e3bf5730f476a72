// Package extent is layer 1; see shared/doc/01-extent.md.
package extent

import (
	"iter"

	"graft/api"
)

// mostParts is the greatest number of extents that Split returns.
const mostParts = 1 << 20

// Valid reports whether an extent is valid.
func Valid(e api.Extent) bool {
	// Off + Len may not fit into an int; MaxLen - Len does once Len is not negative.
	return e.Off >= 0 && e.Len >= 0 && e.Off <= api.MaxLen-e.Len
}

// End returns the offset after the last byte.
func End(e api.Extent) int { return e.Off + e.Len }

// Contains reports whether all bytes of some extents belong to an extent.
func Contains(e api.Extent, l ...api.Extent) bool {
	for _, p := range l {
		if p.Off < e.Off || End(p) > End(e) {
			return false
		}
	}
	return true
}

// Overlap returns the bytes that two extents have in common.
func Overlap(a, b api.Extent) (api.Extent, bool) {
	off, end := max(a.Off, b.Off), min(End(a), End(b))
	// They are equal if an extent without bytes lies within the other one; it has none in common with it.
	if off >= end {
		return api.Extent{}, false
	}
	return between(off, end), true
}

// Join returns the smallest extent that contains two extents that touch.
func Join(a, b api.Extent) (api.Extent, bool) {
	if a.Off > End(b) || b.Off > End(a) {
		return api.Extent{}, false
	}
	return between(min(a.Off, b.Off), max(End(a), End(b))), true
}

// Shift moves an extent.
func Shift(e api.Extent, by int) (api.Extent, bool) {
	// The bounds of by are calculated, because Off + by may not fit into an int.
	if by < -e.Off || by > api.MaxLen-End(e) {
		return api.Extent{}, false
	}
	return api.Extent{Off: e.Off + by, Len: e.Len}, true
}

// Split divides an extent.
func Split(e api.Extent, size int) []api.Extent {
	n := count(e.Len, size)
	if n < 1 || n > mostParts {
		return nil
	}
	l := make([]api.Extent, 0, n)
	for p := range parts(e, size) {
		l = append(l, p)
	}
	return l
}

// Total returns the sum of the lengths of extents.
func Total(l ...api.Extent) (int, bool) {
	n := 0
	for _, e := range l {
		if e.Len > api.MaxLen-n {
			return 0, false
		}
		n += e.Len
	}
	return n, true
}

// between returns the extent with an offset and an end.
func between(off, end int) api.Extent { return api.Extent{Off: off, Len: end - off} }

// count returns the number of parts of a size into which a length is divided, or 0 if there are none.
func count(length, size int) int {
	if length < 1 || size < 1 {
		return 0
	}
	// This rounds up; length + size - 1 may not fit into an int.
	return (length-1)/size + 1
}

// parts yields the parts of an extent in ascending order. The size is at least 1, or else there would be no end of them.
func parts(e api.Extent, size int) iter.Seq[api.Extent] {
	return func(yield func(api.Extent) bool) {
		rest := e
		for rest.Len > 0 {
			n := min(size, rest.Len)
			if !yield(api.Extent{Off: rest.Off, Len: n}) {
				return
			}
			rest = api.Extent{Off: rest.Off + n, Len: rest.Len - n}
		}
	}
}
