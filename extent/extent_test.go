package extent

import (
	"math"
	"math/big"
	"slices"
	"testing"

	"graft/api"
)

const top = api.MaxLen

func x(off, n int) api.Extent { return api.Extent{Off: off, Len: n} }

// edges are ints at which sums and differences overflow, or at which an extent becomes invalid.
var edges = []int{
	math.MinInt, math.MinInt + 1, -top - 1, -top, -top + 1, -7, -1, 0, 1, 2, 7, 1 << 20, 1<<20 + 1,
	top/2 - 1, top / 2, top/2 + 1, top - 7, top - 1, top, top + 1, math.MaxInt - 1, math.MaxInt,
}

// sum adds as integers of any size.
func sum(a ...int) *big.Int {
	n := new(big.Int)
	for _, i := range a {
		n.Add(n, big.NewInt(int64(i)))
	}
	return n
}

// small returns all extents whose bytes lie in the first n offsets.
func small(n int) []api.Extent {
	var l []api.Extent
	for off := range n + 1 {
		for length := range n - off + 1 {
			l = append(l, x(off, length))
		}
	}
	return l
}

// great returns the valid extents with fields from edges.
func great() []api.Extent {
	var l []api.Extent
	for _, off := range edges {
		for _, n := range edges {
			if off >= 0 && n >= 0 && sum(off, n).Cmp(sum(top)) <= 0 {
				l = append(l, x(off, n))
			}
		}
	}
	return l
}

// has reports whether an extent has the byte with an offset.
func has(e api.Extent, off int) bool { return off >= e.Off && off-e.Off < e.Len }

// P1.1: the definition of valid extents, with sums of any size.
func TestValid(t *testing.T) {
	for _, off := range edges {
		for _, n := range edges {
			want := off >= 0 && n >= 0 && sum(off, n).Cmp(sum(top)) <= 0
			if got := Valid(x(off, n)); got != want {
				t.Errorf("Valid(%d, %d) = %v", off, n, got)
			}
		}
	}
	for _, e := range []api.Extent{x(0, 0), x(top, 0), x(0, top), x(top-3, 3)} {
		if !Valid(e) {
			t.Errorf("Valid(%v) = false", e)
		}
	}
	for _, e := range []api.Extent{x(-1, 0), x(-1, 1), x(0, -1), x(5, -1), x(top, 1), x(1, top), x(top+1, 0), x(0, top+1), x(math.MaxInt, math.MaxInt)} {
		if Valid(e) {
			t.Errorf("Valid(%v) = true", e)
		}
	}
}

// P1.1: the end of a valid extent.
func TestEnd(t *testing.T) {
	for _, e := range append(small(6), great()...) {
		if got := End(e); sum(got).Cmp(sum(e.Off, e.Len)) != 0 {
			t.Errorf("End(%v) = %d", e, got)
		}
	}
	if End(x(5, 7)) != 12 || End(x(5, 0)) != 5 || End(x(0, top)) != top || End(x(top, 0)) != top {
		t.Error("end of an example")
	}
}

// P1.2: one extent at a time.
func TestContainsOne(t *testing.T) {
	for _, e := range append(small(6), great()...) {
		for _, p := range append(small(6), great()...) {
			want := p.Off >= e.Off && sum(p.Off, p.Len).Cmp(sum(e.Off, e.Len)) <= 0
			if got := Contains(e, p); got != want {
				t.Errorf("Contains(%v, %v) = %v", e, p, got)
			}
		}
	}
}

// P1.2: none or several extents, and empty ones at the borders.
func TestContainsList(t *testing.T) {
	e := x(2, 5)
	for i, c := range []struct {
		l    []api.Extent
		want bool
	}{
		{nil, true},
		{[]api.Extent{}, true},
		{[]api.Extent{x(2, 5)}, true},
		{[]api.Extent{x(2, 0), x(7, 0), x(4, 0)}, true},
		{[]api.Extent{x(2, 1), x(3, 4), x(2, 5), x(2, 5)}, true},
		{[]api.Extent{x(1, 0)}, false},
		{[]api.Extent{x(8, 0)}, false},
		{[]api.Extent{x(1, 2), x(3, 1), x(4, 1)}, false},
		{[]api.Extent{x(3, 1), x(1, 2), x(4, 1)}, false},
		{[]api.Extent{x(3, 1), x(4, 1), x(6, 2)}, false},
		{[]api.Extent{x(0, top)}, false},
	} {
		if got := Contains(e, c.l...); got != c.want {
			t.Errorf("%d: Contains(%v, %v) = %v", i, e, c.l, got)
		}
	}
	if !Contains(x(4, 0)) || !Contains(x(4, 0), x(4, 0)) || Contains(x(4, 0), x(4, 1)) {
		t.Error("an extent without bytes")
	}
}

// P1.3: Overlap, by looking at each byte.
func TestOverlapOfSmall(t *testing.T) {
	const n = 7
	for _, a := range small(n) {
		for _, b := range small(n) {
			var want api.Extent
			for off := range n {
				if has(a, off) && has(b, off) {
					if want.Len == 0 {
						want.Off = off
					}
					want.Len++
				}
			}
			if got, ok := Overlap(a, b); got != want || ok != (want.Len > 0) {
				t.Errorf("Overlap(%v, %v) = %v, %v", a, b, got, ok)
			}
		}
	}
}

// P1.3: Join, by its definition.
func TestJoinOfSmall(t *testing.T) {
	for _, a := range small(7) {
		for _, b := range small(7) {
			var want api.Extent
			touch := a.Off <= b.Off+b.Len && b.Off <= a.Off+a.Len
			if touch {
				want.Off = min(a.Off, b.Off)
				want.Len = max(a.Off+a.Len, b.Off+b.Len) - want.Off
			}
			if got, ok := Join(a, b); got != want || ok != touch {
				t.Errorf("Join(%v, %v) = %v, %v", a, b, got, ok)
			}
		}
	}
}

// P1.3: neighbors, empty extents and the greatest offsets; both orders of the arguments.
func TestOverlapAndJoin(t *testing.T) {
	for _, c := range []struct {
		a, b, meet, join api.Extent
		meets, joins     bool
	}{
		{x(2, 5), x(4, 9), x(4, 3), x(2, 11), true, true},
		{x(2, 5), x(3, 1), x(3, 1), x(2, 5), true, true},
		{x(2, 5), x(2, 5), x(2, 5), x(2, 5), true, true},
		{x(2, 5), x(7, 2), x(0, 0), x(2, 7), false, true},
		{x(2, 5), x(8, 2), x(0, 0), x(0, 0), false, false},
		{x(2, 5), x(4, 0), x(0, 0), x(2, 5), false, true},
		{x(2, 5), x(2, 0), x(0, 0), x(2, 5), false, true},
		{x(2, 5), x(7, 0), x(0, 0), x(2, 5), false, true},
		{x(2, 5), x(8, 0), x(0, 0), x(0, 0), false, false},
		{x(3, 0), x(3, 0), x(0, 0), x(3, 0), false, true},
		{x(3, 0), x(4, 0), x(0, 0), x(0, 0), false, false},
		{x(0, top), x(0, top), x(0, top), x(0, top), true, true},
		{x(0, top), x(top-1, 1), x(top-1, 1), x(0, top), true, true},
		{x(0, top), x(top, 0), x(0, 0), x(0, top), false, true},
		{x(0, top-1), x(top, 0), x(0, 0), x(0, 0), false, false},
		{x(0, 1), x(top, 0), x(0, 0), x(0, 0), false, false},
	} {
		for _, p := range [][2]api.Extent{{c.a, c.b}, {c.b, c.a}} {
			if got, ok := Overlap(p[0], p[1]); got != c.meet || ok != c.meets {
				t.Errorf("Overlap(%v, %v) = %v, %v", p[0], p[1], got, ok)
			}
			if got, ok := Join(p[0], p[1]); got != c.join || ok != c.joins {
				t.Errorf("Join(%v, %v) = %v, %v", p[0], p[1], got, ok)
			}
		}
	}
}

// P1.4: all edges, with sums of any size.
func TestShiftByEdges(t *testing.T) {
	for _, e := range append(small(4), great()...) {
		for _, by := range edges {
			var want api.Extent
			valid := sum(e.Off, by).Sign() >= 0 && sum(e.Off, by, e.Len).Cmp(sum(top)) <= 0
			if valid {
				want = x(e.Off+by, e.Len)
			}
			if got, ok := Shift(e, by); got != want || ok != valid {
				t.Errorf("Shift(%v, %d) = %v, %v", e, by, got, ok)
			}
		}
	}
}

// P1.4: the last shift that is possible in each direction, and the next one.
func TestShift(t *testing.T) {
	for _, c := range []struct {
		e    api.Extent
		by   int
		want api.Extent
		ok   bool
	}{
		{x(2, 5), 0, x(2, 5), true},
		{x(2, 5), 3, x(5, 5), true},
		{x(2, 5), -2, x(0, 5), true},
		{x(2, 5), -3, x(0, 0), false},
		{x(2, 5), top - 7, x(top-5, 5), true},
		{x(2, 5), top - 6, x(0, 0), false},
		{x(2, 0), top - 2, x(top, 0), true},
		{x(2, 0), top - 1, x(0, 0), false},
		{x(top, 0), -top, x(0, 0), true},
		{x(top, 0), -top - 1, x(0, 0), false},
		{x(0, top), 1, x(0, 0), false},
		{x(2, 5), math.MaxInt, x(0, 0), false},
		{x(2, 5), math.MinInt, x(0, 0), false},
	} {
		if got, ok := Shift(c.e, c.by); got != c.want || ok != c.ok {
			t.Errorf("Shift(%v, %d) = %v, %v", c.e, c.by, got, ok)
		}
	}
}

// P1.5: the parts, by their description.
func TestSplitOfSmall(t *testing.T) {
	for _, e := range small(9) {
		for size := 1; size <= 11; size++ {
			off, l := e.Off, Split(e, size)
			for i, p := range l {
				if p.Off != off || p.Len < 1 || p.Len > size || i < len(l)-1 && p.Len != size {
					t.Errorf("Split(%v, %d) = %v", e, size, l)
				}
				off += p.Len
			}
			if off != e.Off+e.Len {
				t.Errorf("Split(%v, %d) = %v", e, size, l)
			}
		}
	}
}

// P1.5: the example, sizes without a result, and the greatest lengths and sizes.
func TestSplit(t *testing.T) {
	half := top/2 + 1
	for _, c := range []struct {
		e    api.Extent
		size int
		want []api.Extent
	}{
		{x(5, 7), 3, []api.Extent{x(5, 3), x(8, 3), x(11, 1)}},
		{x(5, 6), 3, []api.Extent{x(5, 3), x(8, 3)}},
		{x(5, 6), 6, []api.Extent{x(5, 6)}},
		{x(5, 6), 7, []api.Extent{x(5, 6)}},
		{x(5, 6), math.MaxInt, []api.Extent{x(5, 6)}},
		{x(5, 0), 3, nil},
		{x(0, 0), 1, nil},
		{x(top, 0), 1, nil},
		{x(5, 6), 0, nil},
		{x(5, 6), -1, nil},
		{x(5, 6), math.MinInt, nil},
		{x(5, 0), 0, nil},
		{x(0, top), 1, nil},
		{x(0, top), top, []api.Extent{x(0, top)}},
		{x(0, top), math.MaxInt, []api.Extent{x(0, top)}},
		{x(0, top), half, []api.Extent{x(0, half), x(half, half-1)}},
		{x(top-5, 5), 4, []api.Extent{x(top-5, 4), x(top-1, 1)}},
	} {
		if got := Split(c.e, c.size); !slices.Equal(got, c.want) {
			t.Errorf("Split(%v, %d) = %v", c.e, c.size, got)
		}
	}
}

// P1.5: as many parts as there may be, and one more.
func TestSplitLimit(t *testing.T) {
	for _, c := range []struct{ n, size, want int }{
		{1<<20 - 1, 1, 1<<20 - 1},
		{1 << 20, 1, 1 << 20},
		{1<<20 + 1, 1, 0},
		{3 << 20, 3, 1 << 20},
		{3<<20 - 1, 3, 1 << 20},
		{3<<20 + 1, 3, 0},
		{top, 1 << 42, 1 << 20},
		{top, 1<<42 - 1, 0},
	} {
		l := Split(x(0, c.n), c.size)
		if len(l) != c.want {
			t.Errorf("Split of %d by %d has %d parts", c.n, c.size, len(l))
			continue
		}
		for i, p := range l {
			if p != x(i*c.size, min(c.size, c.n-i*c.size)) {
				t.Errorf("Split of %d by %d has %v at %d", c.n, c.size, p, i)
				break
			}
		}
	}
}

// P1.5 and rule 4: results share no memory.
func TestSplitResultsAreIndependent(t *testing.T) {
	a, b := Split(x(5, 7), 3), Split(x(5, 7), 3)
	if len(a) != 3 || len(b) != 3 {
		t.Fatal(a, b)
	}
	a[0] = x(1, 1)
	if want := []api.Extent{x(5, 3), x(8, 3), x(11, 1)}; !slices.Equal(b, want) || !slices.Equal(Split(x(5, 7), 3), want) {
		t.Error("a result changed with another one")
	}
}

// The parts are a range-function: a loop may leave it early, and range over it again.
func TestPartsStopEarly(t *testing.T) {
	all := parts(x(5, 7), 3)
	for range 2 {
		var got []api.Extent
		for p := range all {
			if got = append(got, p); len(got) == 2 {
				break
			}
		}
		if !slices.Equal(got, []api.Extent{x(5, 3), x(8, 3)}) {
			t.Error(got)
		}
	}
}

// P1.6: all triples of extents, with sums of any size.
func TestTotalOfEdges(t *testing.T) {
	l := great()
	for _, a := range l {
		for _, b := range l {
			for _, c := range l {
				want, in := sum(a.Len, b.Len, c.Len), true
				if want.Cmp(sum(top)) > 0 {
					want, in = sum(), false
				}
				if got, ok := Total(a, b, c); sum(got).Cmp(want) != 0 || ok != in {
					t.Fatalf("Total(%v, %v, %v) = %d, %v", a, b, c, got, ok)
				}
			}
		}
	}
}

// P1.6: no extents, bytes that are counted several times, and the greatest sum.
func TestTotal(t *testing.T) {
	for i, c := range []struct {
		l    []api.Extent
		want int
		ok   bool
	}{
		{nil, 0, true},
		{[]api.Extent{}, 0, true},
		{[]api.Extent{x(5, 0), x(top, 0)}, 0, true},
		{[]api.Extent{x(3, 4), x(3, 4), x(4, 1)}, 9, true},
		{[]api.Extent{x(0, top), x(5, 0)}, top, true},
		{[]api.Extent{x(0, top-1), x(5, 1)}, top, true},
		{[]api.Extent{x(0, top), x(5, 1)}, 0, false},
		{[]api.Extent{x(5, 1), x(0, top)}, 0, false},
		{[]api.Extent{x(0, top), x(0, top), x(0, top), x(0, top)}, 0, false},
	} {
		if got, ok := Total(c.l...); got != c.want || ok != c.ok {
			t.Errorf("%d: Total(%v) = %d, %v", i, c.l, got, ok)
		}
	}
	many := slices.Repeat([]api.Extent{x(0, 1<<61)}, 9) // the sum is 2^61 modulo 2^64
	if got, ok := Total(many...); got != 0 || ok {
		t.Errorf("Total of a sum that overflows = %d, %v", got, ok)
	}
}

// Rule 4: arguments are not modified.
func TestArgumentsStay(t *testing.T) {
	l := []api.Extent{x(6, 1), x(2, 3), x(4, 0)}
	keep := slices.Clone(l)
	Contains(x(0, 9), l...)
	Total(l...)
	if !slices.Equal(l, keep) {
		t.Errorf("the arguments are now %v", l)
	}
}

// P1: every function returns for all ints, also those for which it is not specified.
func TestAllArguments(t *testing.T) {
	for _, off := range edges {
		for _, n := range edges {
			e := x(off, n)
			Valid(e)
			End(e)
			for _, i := range edges {
				Shift(e, i)
				Split(e, i)
				for _, j := range edges {
					p := x(i, j)
					Contains(e, p, e)
					Overlap(e, p)
					Join(e, p)
					Total(e, p, e)
				}
			}
		}
	}
}
