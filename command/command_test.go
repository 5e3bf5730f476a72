package command

import (
	"bytes"
	"math"
	"math/big"
	"slices"
	"sync"
	"testing"

	"graft/api"
)

const top = api.MaxLen

func x(off, n int) api.Extent { return api.Extent{Off: off, Len: n} }

// edges are ints at which sums and differences overflow, or at which a command becomes invalid.
var edges = []int{
	math.MinInt, math.MinInt + 1, -top - 1, -top, -7, -1, 0, 1, 2, 3, 7, 1 << 20,
	top / 2, top/2 + 1, top - 7, top - 3, top - 2, top - 1, top, top + 1, math.MaxInt - 1, math.MaxInt,
}

// contents are the Data of commands with any fields.
var contents = [][]byte{nil, {}, {0}, []byte("a"), []byte("b"), []byte("ab"), []byte("abc")}

// valid reports whether an extent is valid, with a sum of any size.
func valid(off, n int) bool {
	end := new(big.Int).Add(big.NewInt(int64(off)), big.NewInt(int64(n)))
	return off >= 0 && n >= 0 && end.Cmp(big.NewInt(top)) <= 0
}

// defined returns the result of Check by its definition.
func defined(c api.Command) api.Errno {
	switch c.Kind {
	case 1:
		if c.Len == 0 {
			return api.ErrEmpty
		}
		if len(c.Data) == 0 && c.Len >= 1 && valid(c.To, c.Len) && valid(c.From, c.Len) {
			return api.OK
		}
	case 2:
		if len(c.Data) == 0 {
			return api.ErrEmpty
		}
		if c.From == 0 && c.Len == 0 && valid(c.To, len(c.Data)) {
			return api.OK
		}
	default:
		return api.ErrKind
	}
	return api.ErrRange
}

// equal compares all fields, without Same.
func equal(a, b api.Command) bool {
	return a.Kind == b.Kind && a.To == b.To && a.From == b.From && a.Len == b.Len && string(a.Data) == string(b.Data)
}

// small returns all valid commands whose bytes lie in the first n offsets.
func small(n int) []api.Command {
	var l []api.Command
	for length := 1; length <= n; length++ {
		for to := range n - length + 1 {
			l = append(l, api.Command{Kind: 2, To: to, Data: text(length)})
			for from := range n - length + 1 {
				l = append(l, api.Command{Kind: 1, To: to, From: from, Len: length})
			}
		}
	}
	return l
}

// great returns the valid commands with fields from edges.
func great() []api.Command {
	var l []api.Command
	for _, c := range arbitrary() {
		if defined(c) == api.OK {
			l = append(l, c)
		}
	}
	return l
}

// arbitrary returns commands with arbitrary fields.
func arbitrary() []api.Command {
	var l []api.Command
	for _, kind := range []int{0, 1, 2, 3, -1, math.MaxInt, math.MinInt} {
		for _, to := range edges {
			for _, from := range edges {
				for _, n := range edges {
					for _, data := range contents[1:] {
						l = append(l, api.Command{Kind: kind, To: to, From: from, Len: n, Data: data})
					}
				}
			}
		}
	}
	return l
}

// text returns n bytes that are all different if there are at most 256.
func text(n int) []byte {
	b := make([]byte, n)
	for i := range b {
		b[i] = byte(7*i + 1)
	}
	return b
}

// written returns the bytes that a command writes, by their offsets in the new file, for an old file.
func written(c api.Command, old []byte) map[int]byte {
	m := map[int]byte{}
	for i := range c.Len {
		m[c.To+i] = old[c.From+i]
	}
	for i, b := range c.Data {
		m[c.To+i] = b
	}
	return m
}

// P4.1: the fields of a Copy, whatever its arguments are.
func TestCopy(t *testing.T) {
	for _, to := range edges {
		for _, from := range edges {
			for _, n := range edges {
				if got := Copy(to, from, n); !equal(got, api.Command{Kind: 1, To: to, From: from, Len: n}) {
					t.Errorf("Copy(%d, %d, %d) = %v", to, from, n, got)
				}
			}
		}
	}
}

// P4.1: the fields of a Literal, whatever its offset is and however its bytes are divided.
func TestLiteral(t *testing.T) {
	for _, to := range edges {
		for _, p := range []struct {
			parts [][]byte
			want  string
		}{
			{nil, ""},
			{[][]byte{}, ""},
			{[][]byte{nil}, ""},
			{[][]byte{{}, nil, {}}, ""},
			{[][]byte{[]byte("abc")}, "abc"},
			{[][]byte{[]byte("ab"), nil, []byte("cde")}, "abcde"},
			{[][]byte{[]byte("cde"), {}, []byte("ab")}, "cdeab"},
			{[][]byte{{0}, {255, 0}, nil, {1}}, "\x00\xff\x00\x01"},
		} {
			if got := Literal(to, p.parts...); !equal(got, api.Command{Kind: 2, To: to, Data: []byte(p.want)}) {
				t.Errorf("Literal(%d, %q) = %v", to, p.parts, got)
			}
		}
	}
	b := text(100)
	for i := range len(b) + 1 {
		for j := i; j <= len(b); j++ {
			if got := Literal(3, b[:i], b[i:j], b[j:]); string(got.Data) != string(b) {
				t.Fatalf("divided at %d and %d: %v", i, j, got)
			}
		}
	}
}

// P4.2: the definition, with arbitrary fields.
func TestCheckOfArbitrary(t *testing.T) {
	for _, c := range arbitrary() {
		if got := Check(c); got != defined(c) {
			t.Fatalf("Check(%v) = %v", c, got)
		}
	}
	for _, c := range small(6) {
		if got := Check(c); got != api.OK {
			t.Errorf("Check(%v) = %v", c, got)
		}
	}
}

// P4.2: each error alone and together with later ones, and the greatest offsets.
func TestCheck(t *testing.T) {
	ab := []byte("ab")
	for i, e := range []struct {
		c    api.Command
		want api.Errno
	}{
		{Copy(10, 3, 5), api.OK},
		{Copy(0, 0, top), api.OK},
		{Copy(top-1, 0, 1), api.OK},
		{Copy(0, top-1, 1), api.OK},
		{Literal(7, ab), api.OK},
		{Literal(top-2, ab), api.OK},
		{api.Command{Kind: api.Copy, To: 1, Len: 1, Data: []byte{}}, api.OK},
		{api.Command{}, api.ErrKind},
		{api.Command{Kind: 3, To: -1, From: -1, Len: -1, Data: ab}, api.ErrKind},
		{api.Command{Kind: -1, Len: 1}, api.ErrKind},
		{Copy(0, 0, 0), api.ErrEmpty},
		{Copy(-1, -1, 0), api.ErrEmpty},
		{api.Command{Kind: api.Copy, Data: ab}, api.ErrEmpty},
		{Literal(0), api.ErrEmpty},
		{Literal(-1), api.ErrEmpty},
		{Literal(top + 1), api.ErrEmpty},
		{api.Command{Kind: api.Literal, From: 4, Len: 5}, api.ErrEmpty},
		{Copy(1, 1, -1), api.ErrRange},
		{Copy(1, 1, math.MinInt), api.ErrRange},
		{Copy(-1, 1, 1), api.ErrRange},
		{Copy(1, -1, 1), api.ErrRange},
		{Copy(top, 1, 1), api.ErrRange},
		{Copy(1, top, 1), api.ErrRange},
		{Copy(1, 0, top), api.ErrRange},
		{Copy(0, 1, top), api.ErrRange},
		{Copy(0, 0, top+1), api.ErrRange},
		{Copy(math.MaxInt, 0, math.MaxInt), api.ErrRange},
		{Copy(0, math.MaxInt, math.MaxInt), api.ErrRange},
		{api.Command{Kind: api.Copy, Len: 2, Data: ab}, api.ErrRange},
		{Literal(-1, ab), api.ErrRange},
		{Literal(top-1, ab), api.ErrRange},
		{Literal(math.MaxInt, ab), api.ErrRange},
		{api.Command{Kind: api.Literal, Len: 2, Data: ab}, api.ErrRange},
		{api.Command{Kind: api.Literal, Len: -2, Data: ab}, api.ErrRange},
		{api.Command{Kind: api.Literal, From: 2, Data: ab}, api.ErrRange},
		{api.Command{Kind: api.Literal, From: -2, Data: ab}, api.ErrRange},
	} {
		if got := Check(e.c); got != e.want {
			t.Errorf("%d: Check(%v) = %v", i, e.c, got)
		}
	}
}

// P4.3: the targets and the sources of valid commands.
func TestTargetAndSource(t *testing.T) {
	for _, c := range append(small(6), great()...) {
		target, source, copies := x(c.To, c.Len+len(c.Data)), x(c.From, c.Len), c.Kind == 1
		if got := Target(c); got != target {
			t.Errorf("Target(%v) = %v", c, got)
		}
		if got, ok := Source(c); got != source || ok != copies {
			t.Errorf("Source(%v) = %v, %v", c, got, ok)
		}
	}
	if Target(Copy(10, 3, 5)) != x(10, 5) || Target(Literal(7, text(3))) != x(7, 3) {
		t.Error("target of an example")
	}
	if s, ok := Source(Copy(10, 3, 5)); s != x(3, 5) || !ok {
		t.Error("source of a Copy:", s, ok)
	}
	if s, ok := Source(Literal(7, text(3))); s != x(0, 0) || ok {
		t.Error("source of a Literal:", s, ok)
	}
}

// P4.3: Overlaps, by looking at each byte.
func TestOverlapsOfSmall(t *testing.T) {
	for _, c := range small(9) {
		want := false
		for i := range c.Len {
			want = want || c.From+i >= c.To && c.From+i < c.To+c.Len
		}
		if got := Overlaps(c); got != want {
			t.Errorf("Overlaps(%v) = %v", c, got)
		}
	}
}

// P4.3: neighbors, the greatest offsets, and literals.
func TestOverlaps(t *testing.T) {
	for _, e := range []struct {
		c    api.Command
		want bool
	}{
		{Copy(10, 6, 5), true},
		{Copy(10, 5, 5), false},
		{Copy(10, 14, 5), true},
		{Copy(10, 15, 5), false},
		{Copy(10, 10, 1), true},
		{Copy(10, 9, 1), false},
		{Copy(10, 11, 1), false},
		{Copy(0, 0, top), true},
		{Copy(0, top-1, 1), false},
		{Copy(top-1, 0, 1), false},
		{Copy(top-1, top-1, 1), true},
		{Copy(1, 0, top-1), true},
		{Literal(0, text(5)), false},
		{Literal(1, text(5)), false},
		{Literal(top-5, text(5)), false},
	} {
		if got := Overlaps(e.c); got != e.want {
			t.Errorf("Overlaps(%v) = %v", e.c, got)
		}
	}
}

// P4.4: a part writes the same bytes, has the same kind and the right target; all other extents have no part.
func TestPartOfSmall(t *testing.T) {
	const n = 6
	old := []byte("ABCDEFGH")
	for _, c := range small(n) {
		all, end := written(c, old), c.To+c.Len+len(c.Data)
		for off := range n + 2 {
			for length := range n + 2 {
				e := x(off, length)
				got, ok := Part(c, e)
				if length == 0 || off < c.To || off+length > end {
					if ok || !equal(got, api.Command{}) {
						t.Errorf("Part(%v, %v) = %v, %v", c, e, got, ok)
					}
					continue
				}
				if !ok || got.Kind != c.Kind || defined(got) != api.OK || got.To != off || got.Len+len(got.Data) != length {
					t.Fatalf("Part(%v, %v) = %v, %v", c, e, got, ok)
				}
				if got.Kind == 1 && got.From-got.To != c.From-c.To {
					t.Errorf("Part(%v, %v) reads elsewhere: %v", c, e, got)
				}
				for i, b := range written(got, old) {
					if b != all[i] {
						t.Errorf("Part(%v, %v) writes other bytes: %v", c, e, got)
					}
				}
			}
		}
	}
}

// P4.4: the example, the borders of targets, and the greatest offsets.
func TestPart(t *testing.T) {
	c, l := Copy(10, 3, 5), Literal(7, []byte("abcde"))
	none := api.Command{}
	for i, p := range []struct {
		c    api.Command
		e    api.Extent
		want api.Command
	}{
		{c, x(12, 2), Copy(12, 5, 2)},
		{c, x(10, 5), c},
		{c, x(10, 1), Copy(10, 3, 1)},
		{c, x(14, 1), Copy(14, 7, 1)},
		{c, x(9, 1), none},
		{c, x(9, 2), none},
		{c, x(14, 2), none},
		{c, x(15, 1), none},
		{c, x(9, 7), none},
		{c, x(3, 5), none},
		{c, x(10, 0), none},
		{c, x(12, 0), none},
		{c, x(15, 0), none},
		{c, x(0, 0), none},
		{c, x(0, top), none},
		{c, x(top, 0), none},
		{l, x(8, 3), Literal(8, []byte("bcd"))},
		{l, x(7, 5), l},
		{l, x(7, 1), Literal(7, []byte("a"))},
		{l, x(11, 1), Literal(11, []byte("e"))},
		{l, x(6, 1), none},
		{l, x(11, 2), none},
		{l, x(12, 1), none},
		{l, x(6, 7), none},
		{l, x(9, 0), none},
		{l, x(12, 0), none},
		{l, x(0, top), none},
		{l, x(0, 5), none},
		{Copy(0, 0, top), x(0, top), Copy(0, 0, top)},
		{Copy(0, 0, top), x(top-1, 1), Copy(top-1, top-1, 1)},
		{Copy(top-9, 0, 9), x(top-1, 1), Copy(top-1, 8, 1)},
		{Copy(0, top-9, 9), x(8, 1), Copy(8, top-1, 1)},
		{Copy(1, 0, top-1), x(2, top-2), Copy(2, 1, top-2)},
		{Literal(top-2, []byte("ab")), x(top-1, 1), Literal(top-1, []byte("b"))},
		{Literal(top-2, []byte("ab")), x(top, 0), none},
	} {
		if got, ok := Part(p.c, p.e); !equal(got, p.want) || ok != (p.want.Kind != 0) {
			t.Errorf("%d: Part(%v, %v) = %v, %v", i, p.c, p.e, got, ok)
		}
	}
}

// P4.5: Same and Clone of commands with arbitrary fields.
func TestSame(t *testing.T) {
	values := []int{0, 1, 2, -1, math.MinInt, math.MaxInt}
	var l []api.Command
	for _, kind := range []int{0, 1, 2, math.MaxInt} {
		for _, to := range values {
			for _, from := range values {
				for _, n := range values[:4] {
					for _, data := range contents {
						l = append(l, api.Command{Kind: kind, To: to, From: from, Len: n, Data: data})
					}
				}
			}
		}
	}
	for _, a := range l {
		if c := Clone(a); !equal(c, a) || !Same(c, a) || !Same(a, c) {
			t.Errorf("Clone(%v) = %v", a, c)
		}
		for _, b := range l {
			if got := Same(a, b); got != equal(a, b) {
				t.Fatalf("Same(%v, %v) = %v", a, b, got)
			}
		}
	}
}

// P4.5: an empty Data may be nil, and each field matters.
func TestSameFields(t *testing.T) {
	c := api.Command{Kind: 1, To: 2, From: 3, Len: 4, Data: []byte("abc")}
	for i, other := range []api.Command{
		{Kind: 2, To: 2, From: 3, Len: 4, Data: []byte("abc")},
		{Kind: 1, To: 1, From: 3, Len: 4, Data: []byte("abc")},
		{Kind: 1, To: 2, From: 2, Len: 4, Data: []byte("abc")},
		{Kind: 1, To: 2, From: 3, Len: 5, Data: []byte("abc")},
		{Kind: 1, To: 2, From: 3, Len: 4, Data: []byte("abd")},
		{Kind: 1, To: 2, From: 3, Len: 4, Data: []byte("ab")},
		{Kind: 1, To: 2, From: 3, Len: 4, Data: []byte("abcd")},
		{Kind: 1, To: 2, From: 3, Len: 4},
	} {
		if Same(c, other) || Same(other, c) || !Same(other, other) {
			t.Error(i, other)
		}
	}
	empty := api.Command{Data: []byte{}}
	if !Same(empty, api.Command{}) || !Same(api.Command{}, empty) || !Same(c, c) {
		t.Error("equal commands are not the same")
	}
}

// fill overwrites a slice up to its capacity.
func fill(b []byte) {
	b = b[:cap(b)]
	for i := range b {
		b[i] ^= 0xff
	}
}

// P4.5 and rule 4: results share no memory with arguments or with other results, not even beyond their length.
func TestResultsShareNoMemory(t *testing.T) {
	for n := range 60 {
		arg := append(make([]byte, 0, 100), text(n)...)
		c := api.Command{Kind: 2, To: 5, Data: arg}
		results := []api.Command{Clone(c), Clone(c), Literal(5, arg), Literal(5, arg), Literal(5, nil, arg, nil), Literal(5, arg[:n/2], arg[n/2:])}
		for range 2 {
			if p, ok := Part(c, x(5, n)); ok {
				results = append(results, p)
			}
		}
		for i, r := range results {
			if !equal(r, c) {
				t.Fatalf("%d bytes: result %d is %v", n, i, r)
			}
			fill(r.Data)
			if !bytes.Equal(arg[:100][:n], text(n)) || !bytes.Equal(arg[n:100], make([]byte, 100-n)) {
				t.Fatalf("%d bytes: result %d shares memory with an argument", n, i)
			}
		}
	}
}

// Rule 4: arguments are not modified, and bytes beyond the length of a slice are neither read nor written.
func TestArguments(t *testing.T) {
	for n := 1; n < 60; n++ {
		long, other := text(100), text(100)
		clear(other[n:])
		a, b := api.Command{Kind: 2, To: 5, Data: long[:n]}, api.Command{Kind: 2, To: 5, Data: other[:n]}
		parts := [][]byte{long[:n], long[n:n], long[1:n]}
		keep := slices.Clone(parts)
		if !Same(a, b) || !Same(Clone(a), Clone(b)) || Target(a) != x(5, n) || Check(a) != api.OK || Overlaps(a) {
			t.Errorf("bytes after the first %d were read", n)
		}
		if _, ok := Part(a, x(5, n+1)); ok {
			t.Errorf("a part has bytes after the first %d", n)
		}
		Part(a, x(5, n))
		Literal(0, parts...)
		if !bytes.Equal(long, text(100)) {
			t.Errorf("%d bytes: Data was modified", n)
		}
		for i, p := range parts {
			if len(p) != len(keep[i]) || !bytes.Equal(p, keep[i]) {
				t.Errorf("%d bytes: the part %d was modified", n, i)
			}
		}
	}
}

// P1: every function returns for all arguments, also those for which it is not specified.
func TestAllArguments(t *testing.T) {
	for i, c := range arbitrary() {
		Target(c)
		Source(c)
		Overlaps(c)
		for j, off := range edges {
			Part(c, x(off, edges[(i+j)%len(edges)]))
			Part(c, x(c.To, off))
			Part(c, x(off, 1))
		}
	}
	l := Literal(7, []byte("abc"))
	for _, off := range edges {
		for _, n := range edges {
			e := x(off, n)
			for _, c := range []api.Command{l, Copy(7, 9, 3), Copy(0, 0, top), Literal(math.MaxInt-1, []byte("abc")), Literal(math.MinInt, []byte("abc"))} {
				Part(c, e)
			}
		}
	}
}

// Rules 6 and 7: the functions may be called concurrently, and their results depend on the arguments only.
func TestConcurrentCalls(t *testing.T) {
	var group sync.WaitGroup
	wrong := make([]bool, 8)
	shared := Literal(7, text(50))
	for i := range wrong {
		group.Go(func() {
			for n := range 100 {
				c, l := Copy(n, i, n+1), Literal(n, text(i+1))
				p, ok := Part(shared, x(7+i, 20))
				wrong[i] = wrong[i] || Check(c) != api.OK || Target(l) != x(n, i+1) || !Same(Clone(l), l)
				wrong[i] = wrong[i] || !ok || !bytes.Equal(p.Data, text(50)[i:i+20]) || Overlaps(c) != (i < 2*n+1 && n < i+n+1)
			}
		})
	}
	group.Wait()
	for i, w := range wrong {
		if w {
			t.Errorf("goroutine %d had other results", i)
		}
	}
}
