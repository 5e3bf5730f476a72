package tidy

import (
	"bytes"
	"math"
	"math/rand"
	"slices"
	"sync"
	"testing"

	"graft/api"
	"graft/command"
	"graft/delta"
)

const top = api.MaxLen

// edges are ints at which sums and differences overflow, or at which a delta becomes invalid.
var edges = []int{
	math.MinInt, math.MinInt + 1, -top - 1, -top, -7, -1, 0, 1, 2, 3, 7, 1 << 20,
	top / 2, top/2 + 1, top - 7, top - 1, top, top + 1, math.MaxInt - 1, math.MaxInt,
}

// cp returns a Copy of n bytes.
func cp(to, from, n int) api.Command { return api.Command{Kind: 1, To: to, From: from, Len: n} }

// lit returns a Literal.
func lit(to int, data string) api.Command { return api.Command{Kind: 2, To: to, Data: []byte(data)} }

// length returns the number of bytes that a valid command writes.
func length(c api.Command) int { return c.Len + len(c.Data) }

// of returns a delta for an old file of some length, with the length of what the commands write, and digests that are not zero.
func of(oldLen int, l ...api.Command) api.Delta {
	d := api.Delta{OldLen: oldLen, OldHash: [32]byte{1, 31: 2}, NewHash: [32]byte{3, 31: 4}, Commands: l}
	for _, c := range l {
		d.NewLen += length(c)
	}
	return d
}

// equal compares all fields of commands.
func equal(a, b []api.Command) bool {
	return slices.EqualFunc(a, b, func(a, b api.Command) bool {
		return a.Kind == b.Kind && a.To == b.To && a.From == b.From && a.Len == b.Len && string(a.Data) == string(b.Data)
	})
}

// identical compares all fields of deltas.
func identical(a, b api.Delta) bool {
	return a.OldLen == b.OldLen && a.NewLen == b.NewLen && a.OldHash == b.OldHash && a.NewHash == b.NewHash && equal(a.Commands, b.Commands)
}

// clone returns commands that share no memory with others.
func clone(l []api.Command) []api.Command {
	l = slices.Clone(l)
	for i := range l {
		l[i].Data = bytes.Clone(l[i].Data)
	}
	return l
}

// mixed returns commands in another order.
func mixed(r *rand.Rand, l []api.Command) []api.Command {
	l = slices.Clone(l)
	r.Shuffle(len(l), func(i, j int) { l[i], l[j] = l[j], l[i] })
	return l
}

// origins returns the origins of all bytes by the definition, for a valid delta.
func origins(d api.Delta) []Origin {
	l := make([]Origin, d.NewLen)
	for _, c := range d.Commands {
		for i := range c.Len {
			l[c.To+i] = Origin{Copied: true, From: c.From + i}
		}
		for i, b := range c.Data {
			l[c.To+i] = Origin{Value: b}
		}
	}
	return l
}

// commands returns the longest commands whose bytes have some origins.
func commands(l []Origin) []api.Command {
	var m []api.Command
	for i, o := range l {
		switch {
		case i > 0 && o.Copied && l[i-1] == Origin{Copied: true, From: o.From - 1}:
			m[len(m)-1].Len++
		case i > 0 && !o.Copied && !l[i-1].Copied:
			m[len(m)-1].Data = append(m[len(m)-1].Data, o.Value)
		case o.Copied:
			m = append(m, cp(i, o.From, 1))
		default:
			m = append(m, lit(i, string([]byte{o.Value})))
		}
	}
	return m
}

// merged returns the result of Merge by the definition.
func merged(l []api.Command) []api.Command {
	var m []api.Command
	for _, c := range clone(l) {
		if len(m) > 0 {
			a := &m[len(m)-1]
			if a.Kind == 1 && c.Kind == 1 && a.To+a.Len == c.To && a.From+a.Len == c.From {
				a.Len += c.Len
				continue
			}
			if a.Kind == 2 && c.Kind == 2 && a.To+len(a.Data) == c.To {
				a.Data = append(a.Data, c.Data...)
				continue
			}
		}
		m = append(m, c)
	}
	return m
}

// small calls a function with all lists of commands that write a new file in ascending order, for an old file and with two letters.
func small(oldLen, newLen int, visit func([]api.Command)) {
	words := []string{""}
	for i := 0; len(words[i]) < newLen; i++ {
		words = append(words, words[i]+"a", words[i]+"b")
	}
	var extend func(l []api.Command, end int)
	extend = func(l []api.Command, end int) {
		if end == newLen {
			visit(clone(l))
			return
		}
		for _, w := range words[1:] {
			if end+len(w) <= newLen {
				extend(append(l, lit(end, w)), end+len(w))
			}
		}
		for from := range oldLen {
			for n := 1; from+n <= oldLen && end+n <= newLen; n++ {
				extend(append(l, cp(end, from, n)), end+n)
			}
		}
	}
	extend(nil, 0)
}

// random returns commands that write a new file in ascending order, for an old file of some length. Many of them can be merged.
func random(r *rand.Rand, oldLen, count int) []api.Command {
	var l []api.Command
	end, next := 0, 0
	for range count {
		n := 1 + r.Intn(4)
		if r.Intn(2) == 0 {
			next = r.Intn(oldLen + 1)
		}
		if next+n <= oldLen && r.Intn(3) > 0 {
			l = append(l, cp(end, next, n))
			next += n
		} else {
			l = append(l, lit(end, "abcabc"[r.Intn(2):][:n]))
		}
		end += n
	}
	return l
}

// divided returns commands with the same origins, some of which are divided, in any order.
func divided(r *rand.Rand, l []api.Command) []api.Command {
	var m []api.Command
	for _, c := range l {
		for n := 0; length(c) > 0; c = rest(c, n) {
			n = 1 + r.Intn(length(c))
			m = append(m, first(c, n))
		}
	}
	return mixed(r, clone(m))
}

// first returns the command that writes the first n bytes of another one.
func first(c api.Command, n int) api.Command {
	if c.Kind == 1 {
		return cp(c.To, c.From, n)
	}
	return lit(c.To, string(c.Data[:n]))
}

// rest returns the command that writes the bytes after the first n of another one.
func rest(c api.Command, n int) api.Command {
	if c.Kind == 1 {
		return cp(c.To+n, c.From+n, c.Len-n)
	}
	return lit(c.To+n, string(c.Data[n:]))
}

// checkTidy compares Of, Tidy and Merge with the definition, and checks P9.5, for a valid delta.
func checkTidy(t *testing.T, d api.Delta) {
	t.Helper()
	if !delta.Valid(d) {
		t.Fatal("not valid", d)
	}
	all := origins(d)
	for off := -2; off < d.NewLen+3; off++ {
		want, there := Origin{}, off >= 0 && off < d.NewLen
		if there {
			want = all[off]
		}
		if got, ok := Of(d, off); got != want || ok != there {
			t.Errorf("%v: the origin of %d is %v, %v, not %v", d, off, got, ok, want)
		}
	}
	if got, want := Merge(d.Commands...), merged(d.Commands); !equal(got, want) {
		t.Errorf("%v: merged to %v, not %v", d.Commands, got, want)
	}
	want := d
	want.Commands = commands(all)
	got := Tidy(d)
	if !identical(got, want) {
		t.Errorf("Tidy(%v) = %v, not %v", d, got, want)
	}
	if !delta.Valid(got) || !Equivalent(got, d) || !Equivalent(d, got) || !Equivalent(d, d) || !identical(Tidy(got), got) {
		t.Errorf("%v: the canonical form is %v", d, got)
	}
}

// checkEquivalent compares Equivalent with the definition and with P9.5, for valid deltas.
func checkEquivalent(t *testing.T, a, b api.Delta) {
	t.Helper()
	want := a.OldLen == b.OldLen && a.NewLen == b.NewLen && slices.Equal(origins(a), origins(b))
	if got := Equivalent(a, b); got != want {
		t.Errorf("Equivalent(%v, %v) = %v", a, b, got)
	}
	if a.OldLen != b.OldLen || a.NewLen != b.NewLen {
		return
	}
	a.OldHash, a.NewHash = b.OldHash, b.NewHash
	if same := identical(Tidy(a), Tidy(b)); same != want {
		t.Errorf("%v, %v: the canonical forms are the same: %v", a, b, same)
	}
}

// P9.1, P9.2, P9.5: all deltas for short files, in ascending and in another order.
func TestTidyOfSmall(t *testing.T) {
	r := rand.New(rand.NewSource(1))
	count := 0
	for oldLen := range 4 {
		for newLen := range 5 {
			small(oldLen, newLen, func(l []api.Command) {
				checkTidy(t, of(oldLen, l...))
				checkTidy(t, of(oldLen, mixed(r, l)...))
				count++
			})
		}
	}
	if count < 1500 {
		t.Error(count)
	}
}

// P9.1, P9.2, P9.5: longer deltas, and the same ones with divided commands.
func TestTidyOfRandom(t *testing.T) {
	r := rand.New(rand.NewSource(2))
	for range 3000 {
		oldLen := r.Intn(20)
		l := random(r, oldLen, r.Intn(20))
		checkTidy(t, of(oldLen, l...))
		d, e := of(oldLen, mixed(r, l)...), of(oldLen, divided(r, l)...)
		checkTidy(t, d)
		checkTidy(t, e)
		if !identical(Tidy(d), Tidy(e)) {
			t.Errorf("%v and %v: %v, %v", d, e, Tidy(d), Tidy(e))
		}
		checkEquivalent(t, d, e)
	}
}

// P9.1: the origins of bytes that are copied from the first offset, and of zeros, are different.
func TestOfExamples(t *testing.T) {
	d := of(9, lit(3, "\x00\xff"), cp(0, 0, 3), cp(5, 8, 1))
	for off, want := range []Origin{{Copied: true}, {Copied: true, From: 1}, {Copied: true, From: 2}, {}, {Value: 255}, {Copied: true, From: 8}} {
		if got, ok := Of(d, off); got != want || !ok {
			t.Error(off, got, ok)
		}
	}
	for _, off := range edges {
		if off >= 0 && off < 6 {
			continue
		}
		if got, ok := Of(d, off); got != (Origin{}) || ok {
			t.Error(off, got, ok)
		}
		if got, ok := Of(api.Delta{}, off); got != (Origin{}) || ok {
			t.Error(off, got, ok)
		}
	}
}

// P9.1: offsets for which there is no memory.
func TestOfGreatOffsets(t *testing.T) {
	d := of(top, cp(5, 5, top-9), lit(0, "abcde"), cp(top-4, 0, 4))
	for off, want := range map[int]Origin{
		4: {Value: 'e'}, 5: {Copied: true, From: 5}, top / 2: {Copied: true, From: top / 2}, top - 5: {Copied: true, From: top - 5},
		top - 4: {Copied: true}, top - 1: {Copied: true, From: 3},
	} {
		if got, ok := Of(d, off); got != want || !ok {
			t.Error(off, got, ok)
		}
	}
	if got, ok := Of(d, top); got != (Origin{}) || ok {
		t.Error(got, ok)
	}
}

// P9.2: lists that are merged, and lists that are not.
func TestMergeExamples(t *testing.T) {
	for i, c := range []struct{ l, want []api.Command }{
		{nil, nil},
		{[]api.Command{cp(0, 5, 2), cp(2, 7, 3), cp(5, 9, 1)}, []api.Command{cp(0, 5, 5), cp(5, 9, 1)}},
		{[]api.Command{lit(4, "a")}, []api.Command{lit(4, "a")}},
		{[]api.Command{lit(4, "a"), lit(5, "bc"), lit(7, "d")}, []api.Command{lit(4, "abcd")}},
		{[]api.Command{cp(4, 0, 1)}, []api.Command{cp(4, 0, 1)}},
		// The target is not the next one.
		{[]api.Command{cp(0, 5, 2), cp(3, 7, 1)}, []api.Command{cp(0, 5, 2), cp(3, 7, 1)}},
		{[]api.Command{cp(0, 5, 2), cp(1, 7, 1)}, []api.Command{cp(0, 5, 2), cp(1, 7, 1)}},
		{[]api.Command{lit(0, "ab"), lit(3, "c")}, []api.Command{lit(0, "ab"), lit(3, "c")}},
		{[]api.Command{lit(0, "ab"), lit(1, "c")}, []api.Command{lit(0, "ab"), lit(1, "c")}},
		{[]api.Command{lit(0, "ab"), lit(0, "ab")}, []api.Command{lit(0, "ab"), lit(0, "ab")}},
		// The source is not the next one.
		{[]api.Command{cp(0, 5, 2), cp(2, 8, 1)}, []api.Command{cp(0, 5, 2), cp(2, 8, 1)}},
		{[]api.Command{cp(0, 5, 2), cp(2, 6, 1)}, []api.Command{cp(0, 5, 2), cp(2, 6, 1)}},
		{[]api.Command{cp(0, 5, 2), cp(2, 5, 2)}, []api.Command{cp(0, 5, 2), cp(2, 5, 2)}},
		{[]api.Command{cp(0, 5, 2), cp(2, 0, 1)}, []api.Command{cp(0, 5, 2), cp(2, 0, 1)}},
		// The kinds are not the same, though all else fits.
		{[]api.Command{cp(0, 0, 2), lit(2, "ab"), cp(4, 4, 1)}, []api.Command{cp(0, 0, 2), lit(2, "ab"), cp(4, 4, 1)}},
		{[]api.Command{lit(0, "ab"), cp(2, 0, 1), lit(3, "c")}, []api.Command{lit(0, "ab"), cp(2, 0, 1), lit(3, "c")}},
		// Only the last command counts, and the order stays.
		{[]api.Command{cp(0, 0, 2), cp(3, 2, 1), cp(2, 2, 1)}, []api.Command{cp(0, 0, 2), cp(3, 2, 1), cp(2, 2, 1)}},
		{[]api.Command{cp(2, 2, 1), cp(0, 0, 2)}, []api.Command{cp(2, 2, 1), cp(0, 0, 2)}},
		{[]api.Command{lit(2, "c"), lit(0, "ab"), lit(2, "x")}, []api.Command{lit(2, "c"), lit(0, "abx")}},
		// At the greatest offset.
		{[]api.Command{cp(0, 5, top-6), cp(top-6, top-1, 1)}, []api.Command{cp(0, 5, top-5)}},
		{[]api.Command{cp(top-2, 3, 1), cp(top-1, 4, 1)}, []api.Command{cp(top-2, 3, 2)}},
		{[]api.Command{lit(top-2, "a"), lit(top-1, "b")}, []api.Command{lit(top-2, "ab")}},
		{[]api.Command{cp(0, 0, top), cp(0, 0, top)}, []api.Command{cp(0, 0, top), cp(0, 0, top)}},
	} {
		if got := Merge(c.l...); !equal(got, c.want) {
			t.Errorf("%d: %v, not %v", i, got, c.want)
		}
		if !equal(merged(c.l), c.want) {
			t.Error(i, "the model is wrong")
		}
	}
}

// P9.2: lists of valid commands that are no delta.
func TestMergeRandom(t *testing.T) {
	r := rand.New(rand.NewSource(3))
	fewer := 0
	for range 20000 {
		var l []api.Command
		to, from := 0, 0
		for range r.Intn(9) {
			if r.Intn(4) == 0 {
				to = r.Intn(4)
			}
			if r.Intn(4) == 0 {
				from = r.Intn(4)
			}
			n := 1 + r.Intn(3)
			if r.Intn(2) == 0 {
				l = append(l, cp(to, from, n))
				from += n
			} else {
				l = append(l, lit(to, "abcde"[r.Intn(2):][:n]))
			}
			to += n
		}
		want := merged(l)
		if got := Merge(l...); !equal(got, want) {
			t.Fatalf("%v: %v, not %v", l, got, want)
		}
		if len(want) < len(l) {
			fewer++
		}
	}
	if fewer < 5000 {
		t.Error(fewer)
	}
}

// P9.3, P9.5: all pairs of deltas for short files.
func TestEquivalentSmall(t *testing.T) {
	r := rand.New(rand.NewSource(4))
	var all []api.Delta
	for oldLen := range 4 {
		for newLen := range 4 {
			small(oldLen, newLen, func(l []api.Command) { all = append(all, of(oldLen, mixed(r, l)...)) })
		}
	}
	for _, a := range all {
		for _, b := range all {
			checkEquivalent(t, a, b)
		}
	}
}

// P9.3, P9.5: longer deltas whose commands are divided, and the same ones with a change.
func TestEquivalentRandom(t *testing.T) {
	r := rand.New(rand.NewSource(5))
	found := map[bool]int{}
	for range 10000 {
		oldLen := 1 + r.Intn(20)
		a := of(oldLen, divided(r, random(r, oldLen, 1+r.Intn(12)))...)
		l := divided(r, Tidy(a).Commands)
		switch c := &l[r.Intn(len(l))]; {
		case c.Kind == 1 && c.From > 0 && r.Intn(2) == 0:
			c.From--
		case c.Kind == 1 && c.From+c.Len < oldLen && r.Intn(2) == 0:
			c.From++
		case c.Kind == 2 && r.Intn(2) == 0:
			c.Data[r.Intn(len(c.Data))]++
		case c.Kind == 2 && len(c.Data) <= oldLen && r.Intn(3) == 0:
			*c = cp(c.To, r.Intn(oldLen-len(c.Data)+1), len(c.Data))
		}
		b := of(oldLen, l...)
		checkEquivalent(t, a, b)
		checkEquivalent(t, b, a)
		found[Equivalent(a, b)]++
	}
	if found[true] < 1000 || found[false] < 1000 {
		t.Error(found)
	}
}

// P9.3: what matters besides the origins, and what does not.
func TestEquivalentExamples(t *testing.T) {
	a := of(4, cp(0, 1, 2), lit(2, "ab"))
	b := of(4, lit(3, "b"), lit(2, "a"), cp(1, 2, 1), cp(0, 1, 1))
	b.OldHash, b.NewHash = [32]byte{}, [32]byte{9}
	if !Equivalent(a, b) || !Equivalent(b, a) {
		t.Error("digests matter")
	}
	b.OldLen = 5
	if Equivalent(a, b) || Equivalent(b, a) {
		t.Error("OldLen does not matter")
	}
	for i, c := range []struct {
		a, b []api.Command
		want bool
	}{
		{nil, nil, true},
		{nil, []api.Command{cp(0, 0, 1)}, false},
		{[]api.Command{cp(0, 1, 2)}, []api.Command{cp(0, 1, 2), lit(2, "a")}, false},
		{[]api.Command{lit(0, "a")}, []api.Command{lit(0, "ab")}, false},
		// Of a literal, the first, the last and the middle byte matter.
		{[]api.Command{lit(0, "abc")}, []api.Command{lit(0, "xbc")}, false},
		{[]api.Command{lit(0, "abc")}, []api.Command{lit(0, "axc")}, false},
		{[]api.Command{lit(0, "abc")}, []api.Command{lit(0, "abx")}, false},
		// A byte that is copied has another origin than one that is literal, whatever its value.
		{[]api.Command{cp(0, 0, 2)}, []api.Command{lit(0, "\x00\x01")}, false},
		{[]api.Command{cp(0, 0, 1)}, []api.Command{lit(0, "\x00")}, false},
		{[]api.Command{cp(0, 0, 2)}, []api.Command{cp(0, 0, 1), lit(1, "\x00")}, false},
		{[]api.Command{cp(0, 0, 2)}, []api.Command{cp(0, 0, 1), cp(1, 0, 1)}, false},
		{[]api.Command{cp(0, 0, 2), cp(2, 2, 2)}, []api.Command{cp(0, 0, 3), cp(3, 3, 1)}, true},
		{[]api.Command{lit(0, "ab"), lit(2, "cd")}, []api.Command{lit(0, "abc"), lit(3, "d")}, true},
		{[]api.Command{lit(0, "ab"), lit(2, "cd")}, []api.Command{lit(0, "abc"), lit(3, "x")}, false},
	} {
		x, y := of(4, c.a...), of(4, c.b...)
		if Equivalent(x, y) != c.want || Equivalent(y, x) != c.want {
			t.Error(i)
		}
		checkEquivalent(t, x, y)
	}
}

// P9.2, P9.3, P9.5: files for which there is no memory.
func TestGreatLengths(t *testing.T) {
	const half = top / 2
	whole := of(top, cp(0, 0, top))
	for i, c := range []struct {
		l    []api.Command
		same bool
	}{
		{[]api.Command{cp(0, 0, top)}, true},
		{[]api.Command{cp(half, half, top-half), cp(0, 0, half)}, true},
		{[]api.Command{cp(top-1, top-1, 1), cp(0, 0, 1), cp(1, 1, top-2)}, true},
		{[]api.Command{cp(0, half, top-half), cp(top-half, 0, half)}, false},
		{[]api.Command{cp(0, 0, top-1), cp(top-1, top-2, 1)}, false},
		{[]api.Command{cp(0, 0, top-1), lit(top-1, "a")}, false},
		{[]api.Command{lit(0, "\x00"), cp(1, 1, top-1)}, false},
	} {
		d := of(top, c.l...)
		if !delta.Valid(d) {
			t.Fatal(i)
		}
		if Equivalent(d, whole) != c.same || Equivalent(whole, d) != c.same || !Equivalent(d, d) {
			t.Error(i, "Equivalent")
		}
		if got := Tidy(d); identical(got, whole) != c.same || !c.same && !equal(got.Commands, c.l) {
			t.Error(i, got)
		}
	}
}

// P9.2, P9.3, P1: long lists, for which a time that grows with the square of their length would be very long.
func TestLongLists(t *testing.T) {
	const size = 1 << 19
	r := rand.New(rand.NewSource(6))
	var bytewise, copies []api.Command
	for i := range size {
		bytewise = append(bytewise, lit(i, string([]byte{byte(i >> 8)})))
		copies = append(copies, cp(i, i, 1))
	}
	all := make([]byte, size)
	for i := range all {
		all[i] = byte(i >> 8)
	}
	for i, c := range []struct {
		l    []api.Command
		want api.Command
	}{{bytewise, lit(0, string(all))}, {copies, cp(0, 0, size)}} {
		d, whole := of(size, mixed(r, c.l)...), of(size, c.want)
		if got := Merge(c.l...); !equal(got, whole.Commands) {
			t.Error(i, len(got))
		}
		if got := Tidy(d); !identical(got, whole) {
			t.Error(i, len(got.Commands))
		}
		if !Equivalent(d, whole) || !Equivalent(whole, d) {
			t.Error(i, "not equivalent")
		}
	}
	d, ok := Literals(all, of(size, copies...), slices.Repeat([]int{0, size - 1, 7, -1, size}, size)...)
	if !ok || len(d.Commands) != size || d.Commands[7].Kind != 2 || d.Commands[8].Kind != 1 {
		t.Error("Literals", ok)
	}
}

// checkLiterals compares Literals with the definition, for a valid delta that belongs to an old file.
func checkLiterals(t *testing.T, old string, d api.Delta, indices []int) {
	t.Helper()
	want := d
	want.Commands = clone(d.Commands)
	for i, c := range d.Commands {
		if c.Kind == 1 && slices.Contains(indices, i) {
			want.Commands[i] = lit(c.To, old[c.From:c.From+c.Len])
		}
	}
	got, ok := Literals([]byte(old), d, indices...)
	if !ok || !identical(got, want) {
		t.Errorf("Literals(%q, %v, %v) = %v, %v, not %v", old, d, indices, got, ok, want)
	}
	for _, other := range []string{old + "x", old[:max(0, len(old)-1)], ""} {
		if len(other) == len(old) {
			continue
		}
		if got, ok := Literals([]byte(other), d, indices...); ok || !identical(got, api.Delta{}) {
			t.Errorf("Literals(%q, %v, %v) = %v, %v", other, d, indices, got, ok)
		}
	}
}

// P9.4: random deltas and indices, some of which occur several times or belong to no Copy.
func TestLiteralsRandom(t *testing.T) {
	r := rand.New(rand.NewSource(7))
	for range 5000 {
		old := "abcdefghijklmnopqrst"[:r.Intn(20)]
		d := of(len(old), mixed(r, random(r, len(old), r.Intn(10)))...)
		var indices []int
		for range r.Intn(8) {
			indices = append(indices, r.Intn(len(d.Commands)+4)-2)
		}
		checkLiterals(t, old, d, indices)
		checkLiterals(t, old, d, append(indices, edges...))
	}
}

// P9.4: indices that are written out.
func TestLiteralsExamples(t *testing.T) {
	d := of(6, cp(5, 0, 2), lit(0, "x"), cp(1, 2, 4))
	for i, c := range []struct {
		indices []int
		want    []api.Command
	}{
		{nil, d.Commands},
		{[]int{1}, d.Commands},
		{[]int{3}, d.Commands},
		{[]int{-1, math.MinInt, math.MaxInt}, d.Commands},
		{[]int{0}, []api.Command{lit(5, "ab"), lit(0, "x"), cp(1, 2, 4)}},
		{[]int{2}, []api.Command{cp(5, 0, 2), lit(0, "x"), lit(1, "cdef")}},
		{[]int{2, 0, 2, 0, 1, 0}, []api.Command{lit(5, "ab"), lit(0, "x"), lit(1, "cdef")}},
	} {
		if got, ok := Literals([]byte("abcdef"), d, c.indices...); !ok || got.NewLen != 7 || !identical(got, of(6, c.want...)) {
			t.Error(i, got, ok)
		}
		checkLiterals(t, "abcdef", d, c.indices)
	}
	// Neither the digests nor the contents of the old file matter.
	if got, ok := Literals([]byte("ABCDEF"), d, 0); !ok || string(got.Commands[0].Data) != "AB" {
		t.Error(got, ok)
	}
	if got, ok := Literals(nil, api.Delta{NewHash: [32]byte{1}}, 0); !ok || !identical(got, api.Delta{NewHash: [32]byte{1}}) {
		t.Error(got, ok)
	}
	if got, ok := Literals(nil, of(top, cp(0, 0, top)), 0); ok || !identical(got, api.Delta{}) {
		t.Error(got, ok)
	}
}

// fill overwrites commands, and their bytes up to the capacity.
func fill(l []api.Command) {
	l = l[:cap(l)]
	for i := range l {
		b := l[i].Data[:cap(l[i].Data)]
		for j := range b {
			b[j] ^= 0xff
		}
		l[i].To = -5
	}
}

// Rule 4: results share no memory with the arguments or with other results.
func TestResultsShareNoMemory(t *testing.T) {
	for n := 1; n < 40; n++ {
		text := string(bytes.Repeat([]byte("abc"), n))
		list := func() []api.Command {
			return []api.Command{lit(0, text), lit(len(text), text), cp(2*len(text), 0, n), lit(2*len(text)+n, text)}
		}
		for i, call := range []func(old []byte, l []api.Command) []api.Command{
			func(_ []byte, l []api.Command) []api.Command { return Merge(l...) },
			func(_ []byte, l []api.Command) []api.Command { return Merge(l[2:]...) },
			func(_ []byte, l []api.Command) []api.Command { return Tidy(of(len(text), l...)).Commands },
			func(old []byte, l []api.Command) []api.Command {
				d, _ := Literals(old, of(len(text), l...), 2)
				return d.Commands
			},
			func(old []byte, l []api.Command) []api.Command {
				d, _ := Literals(old, of(len(text), l...))
				return d.Commands
			},
		} {
			old, l := []byte(text), list()
			one, two := call(old, l), call(old, l)
			want := clone(one)
			fill(one)
			if string(old) != text || !equal(l, list()) {
				t.Fatal(i, "a result shares memory with an argument")
			}
			clear(old)
			fill(l)
			if !equal(two, want) {
				t.Fatal(i, "a result shares memory with an argument or another result")
			}
			for j := range two {
				fill(two[j : j+1 : j+1])
				want[j] = two[j]
				if !equal(two, want) {
					t.Fatal(i, "literals of one result share memory")
				}
			}
		}
	}
}

// Rule 4: arguments are not modified, and nothing is read or written beyond their lengths.
func TestArguments(t *testing.T) {
	data := []byte("abcdef")
	part := api.Command{Kind: 2, To: 4, Data: data[1:3]}
	l := []api.Command{part, {Kind: 2, To: 6, Data: data[3:4]}, cp(2, 2, 2), cp(0, 0, 2), cp(7, 9, 1), {Kind: 9}}
	backup := clone(l)
	old, indices := []byte("0123456789++"), []int{3, 2, 1, 0, -1}
	d := of(10, l[:5]...)
	if got := Tidy(d); !equal(got.Commands, []api.Command{cp(0, 0, 4), lit(4, "bcd"), cp(7, 9, 1)}) {
		t.Error(got)
	}
	if got := Merge(l[:3]...); !equal(got, []api.Command{lit(4, "bcd"), cp(2, 2, 2)}) {
		t.Error(got)
	}
	if !Equivalent(d, Tidy(d)) {
		t.Error("not equivalent")
	}
	if got, ok := Of(d, 5); got != (Origin{Value: 'c'}) || !ok {
		t.Error(got, ok)
	}
	if got, ok := Literals(old[:10], d, indices[:2]...); !ok || !equal(got.Commands, []api.Command{lit(4, "bc"), lit(6, "d"), lit(2, "23"), lit(0, "01"), cp(7, 9, 1)}) {
		t.Error(got, ok)
	}
	if string(data) != "abcdef" || string(old) != "0123456789++" || !slices.Equal(indices, []int{3, 2, 1, 0, -1}) || !equal(l, backup) {
		t.Error("an argument is changed")
	}
}

// P1: nothing panics, and everything returns, whatever the fields of a delta are.
func TestAllArguments(t *testing.T) {
	old := []byte("abc")
	valid := of(3, cp(0, 0, 3))
	for _, i := range edges {
		for _, j := range edges {
			for _, k := range edges {
				for _, kind := range []int{math.MinInt, 0, 1, 2, 3} {
					for _, data := range []string{"", "xyz"} {
						c := api.Command{Kind: kind, To: i, From: j, Len: k, Data: []byte(data)}
						next := api.Command{Kind: kind, To: i + k + len(data), From: j + k, Len: k, Data: []byte(data)}
						callAll(old, valid, api.Delta{OldLen: 3, NewLen: 3, Commands: []api.Command{c}}, i)
						callAll(old, valid, api.Delta{OldLen: 3, NewLen: 3, Commands: []api.Command{cp(0, 0, 3), c, next}}, k)
					}
				}
			}
			d := valid
			d.OldLen, d.NewLen = i, j
			callAll(old, valid, d, i)
		}
	}
}

// callAll calls all functions with a delta that need not be valid.
func callAll(old []byte, valid, d api.Delta, off int) {
	Of(d, off)
	Tidy(d)
	Merge(d.Commands...)
	Equivalent(d, d)
	Equivalent(d, valid)
	Equivalent(valid, d)
	Literals(old, d, 0, 1, 2, 0)
}

// Rule 6: the functions may be called concurrently.
func TestConcurrentCalls(t *testing.T) {
	r := rand.New(rand.NewSource(8))
	const size = 100
	old := bytes.Repeat([]byte("xyz."), size/4)
	l := random(r, size, 300)
	a, b := of(size, mixed(r, l)...), of(size, divided(r, l)...)
	want := Tidy(a)
	var all sync.WaitGroup
	for range 4 {
		all.Go(func() {
			for range 20 {
				if !identical(Tidy(a), want) || !identical(Tidy(b), want) || !Equivalent(a, b) {
					t.Error("Tidy or Equivalent")
				}
				if d, ok := Literals(old, a, 1, 2, 3); !ok || len(d.Commands) != len(a.Commands) {
					t.Error("Literals")
				}
				if o, ok := Of(a, 7); !ok || o != origins(want)[7] {
					t.Error("Of", o, ok)
				}
				if !equal(Merge(l...), want.Commands) {
					t.Error("Merge")
				}
			}
		})
	}
	all.Wait()
}

// P9.2: what is merged can be executed by itself, also where a list is no delta.
func TestMergedCommandsAreValid(t *testing.T) {
	for _, to := range []int{0, 1, top - 6} {
		for _, from := range []int{0, 3, top - 6} {
			for _, c := range Merge(cp(to, from, 2), cp(to+2, from+2, 4), lit(to, "ab"), lit(to+2, "cdef")) {
				if command.Check(c) != api.OK || length(c) != 6 {
					t.Error(c)
				}
			}
		}
	}
}
