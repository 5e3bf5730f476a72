package patch

import (
	"bytes"
	"crypto/sha256"
	"math"
	"math/bits"
	"math/rand"
	"slices"
	"sync"
	"testing"

	"graft/api"
	"graft/delta"
)

const top = api.MaxLen

// edges are ints at which sums and differences overflow, or at which a delta becomes invalid.
var edges = []int{
	math.MinInt, math.MinInt + 1, -top - 1, -top, -7, -1, 0, 1, 2, 3, 7, 1 << 20,
	top / 2, top/2 + 1, top - 7, top - 1, top, top + 1, math.MaxInt - 1, math.MaxInt,
}

// none is the Fault of a delta that belongs to an old file.
var none = api.Fault{}

// fault returns a Fault.
func fault(code api.Errno, at int) api.Fault { return api.Fault{Code: code, At: at} }

// cp returns a Copy of n bytes.
func cp(to, from, n int) api.Command { return api.Command{Kind: 1, To: to, From: from, Len: n} }

// lit returns a Literal.
func lit(to int, data string) api.Command { return api.Command{Kind: 2, To: to, Data: []byte(data)} }

// of returns the delta of two files with some commands.
func of(old, new string, l ...api.Command) api.Delta {
	return api.Delta{
		OldLen: len(old), NewLen: len(new),
		OldHash: sha256.Sum256([]byte(old)), NewHash: sha256.Sum256([]byte(new)),
		Commands: l,
	}
}

// clone returns a delta that shares no memory with another one.
func clone(d api.Delta) api.Delta {
	d.Commands = slices.Clone(d.Commands)
	for i := range d.Commands {
		d.Commands[i].Data = bytes.Clone(d.Commands[i].Data)
	}
	return d
}

// identical compares all fields of deltas.
func identical(a, b api.Delta) bool {
	return a.OldLen == b.OldLen && a.NewLen == b.NewLen && a.OldHash == b.OldHash && a.NewHash == b.NewHash &&
		slices.EqualFunc(a.Commands, b.Commands, func(a, b api.Command) bool {
			return a.Kind == b.Kind && a.To == b.To && a.From == b.From && a.Len == b.Len && string(a.Data) == string(b.Data)
		})
}

// text returns n random bytes, of which there are as many different ones as letters.
func text(r *rand.Rand, n, letters int) string {
	b := make([]byte, n)
	for i := range b {
		b[i] = byte('a' + r.Intn(letters))
	}
	return string(b)
}

// written returns the new file by the definition, for a delta that is valid and belongs to an old file.
func written(old string, d api.Delta) string {
	m := map[int]byte{}
	for _, c := range d.Commands {
		for i := range c.Len {
			m[c.To+i] = old[c.From+i]
		}
		for i, b := range c.Data {
			m[c.To+i] = b
		}
	}
	b := make([]byte, d.NewLen)
	for i := range b {
		b[i] = m[i]
	}
	return string(b)
}

// random returns a delta for an old file, with commands in any order, and the new file.
func random(r *rand.Rand, old string) (api.Delta, string) {
	var l []api.Command
	end := 0
	for range r.Intn(9) {
		n := 1 + r.Intn(6)
		if n <= len(old) && r.Intn(3) > 0 {
			l = append(l, cp(end, r.Intn(len(old)-n+1), n))
		} else {
			l = append(l, lit(end, text(r, n, 26)))
		}
		end += n
	}
	r.Shuffle(len(l), func(i, j int) { l[i], l[j] = l[j], l[i] })
	new := written(old, api.Delta{NewLen: end, Commands: l})
	return of(old, new, l...), new
}

// checkAll compares Apply, Verify and Byte with the definition.
func checkAll(t *testing.T, old string, d api.Delta) {
	t.Helper()
	want, f := "", delta.Check(d)
	if f == none && d.OldLen != len(old) {
		f = fault(api.ErrOldLen, len(old))
	}
	usable := f == none
	if usable {
		want = written(old, d)
	}
	if usable && d.OldHash != sha256.Sum256([]byte(old)) {
		f = fault(api.ErrOldHash, 0)
	} else if usable && d.NewHash != sha256.Sum256([]byte(want)) {
		f = fault(api.ErrNewHash, 0)
	}
	if got := Apply([]byte(old), d); string(got) != want {
		t.Errorf("%q, %v: the new file is %q, not %q", old, d, got, want)
	}
	if got := Verify([]byte(old), d); got != f {
		t.Errorf("%q, %v: the fault is %v, not %v", old, d, got, f)
	}
	for off := -2; off < len(want)+3; off++ {
		b, ok := Byte([]byte(old), d, off)
		if off < 0 || off >= len(want) {
			if b != 0 || ok {
				t.Errorf("%q, %v: the byte %d is %d, %v", old, d, off, b, ok)
			}
		} else if b != want[off] || !ok {
			t.Errorf("%q, %v: the byte %d is %d, %v, not %d", old, d, off, b, ok, want[off])
		}
	}
}

// P8.1, P8.2, P8.4: deltas with commands in any order.
func TestRandomDeltas(t *testing.T) {
	r := rand.New(rand.NewSource(1))
	for range 3000 {
		old := text(r, r.Intn(12), 26)
		d, new := random(r, old)
		if got := Apply([]byte(old), d); string(got) != new {
			t.Errorf("%q, %v: %q, not %q", old, d, got, new)
		}
		if f := Verify([]byte(old), d); f != none {
			t.Errorf("%q, %v: %v", old, d, f)
		}
		checkAll(t, old, d)
	}
}

// P8.1, P8.2, P8.4: deltas with random changes, and other old files; most of them are rejected.
func TestChangedDeltas(t *testing.T) {
	r := rand.New(rand.NewSource(2))
	for range 6000 {
		old := text(r, 1+r.Intn(12), 26)
		d, _ := random(r, old)
		d = clone(d)
		changes := []func(){
			func() { d.OldLen += r.Intn(3) - 1 },
			func() { d.NewLen += r.Intn(3) - 1 },
			func() { d.OldHash[r.Intn(32)] ^= 1 << r.Intn(8) },
			func() { d.NewHash[r.Intn(32)] ^= 1 << r.Intn(8) },
			func() { old += "x" },
			func() { old = old[:max(0, len(old)-1)] },
			func() { old = text(r, len(old), 26) },
			func() { d.Commands = append(d.Commands, cp(d.NewLen, 0, 1)); d.NewLen++ },
		}
		if n := len(d.Commands); n > 0 {
			c := &d.Commands[r.Intn(n)]
			changes = append(changes,
				func() { c.To += r.Intn(3) - 1 },
				func() { c.From += r.Intn(3) - 1 },
				func() { c.Len += r.Intn(3) - 1 },
				func() { c.Kind = r.Intn(4) },
				func() { c.Data = []byte(text(r, len(c.Data), 26)) })
		}
		for range 1 + r.Intn(2) {
			changes[r.Intn(len(changes))]()
		}
		checkAll(t, old, d)
	}
}

// P8.1, P8.4: what the lists of commands of the chapter's terms write.
func TestApplyExamples(t *testing.T) {
	const old = "0123456789"
	for i, c := range []struct {
		new string
		l   []api.Command
	}{
		{"", nil},
		{"0123456789", []api.Command{cp(0, 0, 10)}},
		{"9", []api.Command{cp(0, 9, 1)}},
		{"\x00", []api.Command{lit(0, "\x00")}},
		{"5678901234", []api.Command{cp(0, 5, 5), cp(5, 0, 5)}},
		{"5678901234", []api.Command{cp(5, 0, 5), cp(0, 5, 5)}},
		{"000", []api.Command{cp(2, 0, 1), cp(0, 0, 1), cp(1, 0, 1)}},
		{"12340123", []api.Command{cp(4, 0, 4), cp(0, 1, 4)}},
		{"ab0567845", []api.Command{cp(3, 5, 4), lit(0, "ab"), cp(2, 0, 1), cp(7, 4, 2)}},
		{"01234567890123456789x", []api.Command{lit(20, "x"), cp(10, 0, 10), cp(0, 0, 10)}},
	} {
		d := of(old, c.new, c.l...)
		if got := Apply([]byte(old), d); string(got) != c.new {
			t.Errorf("%d: %q", i, got)
		}
		if f := Verify([]byte(old), d); f != none {
			t.Errorf("%d: %v", i, f)
		}
		checkAll(t, old, d)
	}
	checkAll(t, "", api.Delta{})
	checkAll(t, "", of("", ""))
	checkAll(t, "", of("", "abc", lit(2, "c"), lit(0, "ab")))
}

// P8.1, P8.2, P8.4: a delta without bytes differs from one that is rejected only in Verify.
func TestNoBytes(t *testing.T) {
	for _, old := range []string{"", "abc"} {
		d := of(old, "")
		if got := Apply([]byte(old), d); len(got) != 0 {
			t.Error(got)
		}
		if f := Verify([]byte(old), d); f != none {
			t.Error(f)
		}
		for _, off := range edges {
			if b, ok := Byte([]byte(old), d, off); b != 0 || ok {
				t.Error(off, b, ok)
			}
		}
	}
}

// P8.2: each fault of delta.Check precedes the others, which follow each other in their order.
func TestVerifyOrder(t *testing.T) {
	const old = "abcdef"
	good := of(old, "defxy", cp(0, 3, 3), lit(3, "xy"))
	broken := good
	broken.OldHash[31]++
	broken.NewHash[0]++
	for i, c := range []struct {
		change func(d *api.Delta)
		want   api.Fault
	}{
		{func(d *api.Delta) { d.OldLen = -1 }, fault(api.ErrRange, -1)},
		{func(d *api.Delta) { d.NewLen = top + 1 }, fault(api.ErrRange, -1)},
		{func(d *api.Delta) { d.Commands = []api.Command{d.Commands[0], {}} }, fault(api.ErrKind, 1)},
		{func(d *api.Delta) { d.Commands = []api.Command{d.Commands[0], lit(3, "")} }, fault(api.ErrEmpty, 1)},
		{func(d *api.Delta) { d.Commands = []api.Command{cp(-1, 3, 3), d.Commands[1]} }, fault(api.ErrRange, 0)},
		{func(d *api.Delta) { d.OldLen = 5 }, fault(api.ErrSource, 0)},
		{func(d *api.Delta) { d.NewLen = 4 }, fault(api.ErrLength, 1)},
		{func(d *api.Delta) { d.Commands = append(d.Commands, lit(4, "y")) }, fault(api.ErrOverlap, 2)},
		{func(d *api.Delta) { d.NewLen = 6 }, fault(api.ErrGap, 5)},
	} {
		for _, base := range []api.Delta{good, broken} {
			for _, file := range []string{old, "", "abcdeg", "abcdefg", "abcde"} {
				d := clone(base)
				c.change(&d)
				if got := Verify([]byte(file), d); got != c.want {
					t.Errorf("%d, %q: %v", i, file, got)
				}
				checkAll(t, file, d)
			}
		}
	}
	oldOnly, newOnly := good, good
	oldOnly.OldHash, newOnly.NewHash = broken.OldHash, broken.NewHash
	for i, c := range []struct {
		old  string
		d    api.Delta
		want api.Fault
	}{
		{"abcdef", good, none},
		{"", good, fault(api.ErrOldLen, 0)},
		{"abcde", good, fault(api.ErrOldLen, 5)},
		{"abcdefg", good, fault(api.ErrOldLen, 7)},
		{"abcdefg", broken, fault(api.ErrOldLen, 7)},
		{"abcdef", broken, fault(api.ErrOldHash, 0)},
		{"Abcdef", newOnly, fault(api.ErrOldHash, 0)},
		{"Abcdef", good, fault(api.ErrOldHash, 0)},
		{"abcdef", oldOnly, fault(api.ErrOldHash, 0)},
		{"abcdef", newOnly, fault(api.ErrNewHash, 0)},
	} {
		if got := Verify([]byte(c.old), c.d); got != c.want {
			t.Errorf("%d: %v", i, got)
		}
	}
}

// P8.1, P8.2, P8.4: each byte of a digest matters for Verify, and none of them for Apply and Byte.
func TestDigests(t *testing.T) {
	const old = "abcdef"
	good := of(old, "defxy", cp(0, 3, 3), lit(3, "xy"))
	for i := range 32 {
		a, b := good, good
		a.OldHash[i] ^= 0x80
		b.NewHash[i] ^= 1
		for _, c := range []struct {
			d    api.Delta
			want api.Fault
		}{{a, fault(api.ErrOldHash, 0)}, {b, fault(api.ErrNewHash, 0)}} {
			if f := Verify([]byte(old), c.d); f != c.want {
				t.Error(i, f)
			}
			if got := Apply([]byte(old), c.d); string(got) != "defxy" {
				t.Errorf("%d: %q", i, got)
			}
			if got, ok := Byte([]byte(old), c.d, 1); got != 'e' || !ok {
				t.Error(i, got, ok)
			}
		}
	}
	// A change of the old file that no command reads changes the old digest only.
	if f := Verify([]byte("Xbcdef"), of("Xbcdef", "defxy", good.Commands...)); f != none {
		t.Error(f)
	}
	if f := Verify([]byte("abcdeF"), of("abcdeF", "defxy", good.Commands...)); f != fault(api.ErrNewHash, 0) {
		t.Error(f)
	}
}

// P8.2: a new file that is much longer than the old one and the commands.
func TestVerifyLong(t *testing.T) {
	const size, count = 1 << 16, 64
	old := text(rand.New(rand.NewSource(3)), size, 26)
	h := sha256.New()
	d := of(old, "")
	for i := range count {
		d.Commands = append(d.Commands, cp((count-1-i)*size, 0, size))
		h.Write([]byte(old))
	}
	d.NewLen, d.NewHash = count*size, [32]byte(h.Sum(nil))
	if f := Verify([]byte(old), d); f != none {
		t.Error(f)
	}
	if b, ok := Byte([]byte(old), d, d.NewLen-1); b != old[size-1] || !ok {
		t.Error(b, ok)
	}
	if !bytes.Equal(Apply([]byte(old), d), bytes.Repeat([]byte(old), count)) {
		t.Error("another new file")
	}
}

// P8.3: the lengths and digests of any files, with commands that need not be valid.
func TestDescribe(t *testing.T) {
	r := rand.New(rand.NewSource(4))
	l := []api.Command{cp(1, 2, 3), lit(0, ""), {Kind: -1, To: math.MinInt, From: math.MaxInt, Len: -1, Data: []byte("ab")}, lit(0, "abc"), cp(1, 2, 3)}
	for n := range 150 {
		old, new := text(r, n, 26), text(r, r.Intn(150), 26)
		k := r.Intn(len(l) + 1)
		if got := Describe([]byte(old), []byte(new), l[:k]...); !identical(got, of(old, new, l[:k]...)) {
			t.Errorf("%q, %q, %v: %v", old, new, l[:k], got)
		}
	}
	if got := Describe(nil, nil); !identical(got, of("", "")) {
		t.Error(got)
	}
}

// P8.4: offsets with no byte, and deltas that Apply rejects.
func TestByteOffsets(t *testing.T) {
	const old = "abcdef"
	good := of(old, "defxy", cp(0, 3, 3), lit(3, "xy"))
	for _, off := range edges {
		b, ok := Byte([]byte(old), good, off)
		if off < 0 || off >= 5 {
			if b != 0 || ok {
				t.Error(off, b, ok)
			}
		} else if b != "defxy"[off] || !ok {
			t.Error(off, b, ok)
		}
		for i, d := range []api.Delta{of("abcdefg", "defxy", good.Commands...), of("abc", "xy", lit(0, "xy")), of(old, "defxyz", good.Commands...), of(old, "defx", good.Commands...), of(old, "xy", lit(0, "xy"), lit(1, "y"))} {
			if b, ok := Byte([]byte(old), d, off); b != 0 || ok {
				t.Error(i, off, b, ok)
			}
		}
	}
	if b, ok := Byte([]byte{0}, of("\x00", "\x00", cp(0, 0, 1)), 0); b != 0 || !ok {
		t.Error("a zero byte:", b, ok)
	}
}

// commands returns the commands of Make by the definition.
func commands(old, new string, block int) []api.Command {
	var l []api.Command
	literal := ""
	flush := func(p int) {
		if literal != "" {
			l = append(l, lit(p-len(literal), literal))
		}
		literal = ""
	}
	p := 0
	for p < len(new) {
		q := -1
		if block >= 1 && len(new)-p >= block {
			for i := len(old) - block; i >= 0; i-- {
				if old[i:i+block] == new[p:p+block] {
					q = i
				}
			}
		}
		if q < 0 {
			literal += new[p : p+1]
			p++
			continue
		}
		n := 0
		for p+n < len(new) && q+n < len(old) && new[p+n] == old[q+n] {
			n++
		}
		flush(p)
		l = append(l, cp(p, q, n))
		p += n
	}
	flush(p)
	return l
}

// checkMake compares Make with the definition, and Verify and Apply of its result with P8.6.
func checkMake(t *testing.T, old, new string, block int) {
	t.Helper()
	d := Make([]byte(old), []byte(new), block)
	if want := of(old, new, commands(old, new, block)...); !identical(d, want) {
		t.Errorf("%q, %q, %d: %v, not %v", old, new, block, d, want)
	}
	checkInverse(t, old, new, d)
}

// checkInverse checks P8.6.
func checkInverse(t *testing.T, old, new string, d api.Delta) {
	t.Helper()
	if f := Verify([]byte(old), d); f != none {
		t.Errorf("%q, %q, %v: %v", old, new, d, f)
	}
	if got := Apply([]byte(old), d); string(got) != new {
		t.Errorf("%q, %q, %v: %q", old, new, d, got)
	}
}

// words returns all texts of two letters of at most n bytes.
func words(n int) []string {
	l := []string{""}
	for i := 0; len(l[i]) < n; i++ {
		l = append(l, l[i]+"a", l[i]+"b")
	}
	return l
}

// P8.5, P8.6: all short files.
func TestMakeShort(t *testing.T) {
	for _, old := range words(5) {
		for _, new := range words(5) {
			for block := -1; block < 5; block++ {
				checkMake(t, old, new, block)
			}
		}
	}
}

// P8.5, P8.6: files with parts in common, of few and of many letters.
func TestMakeRandom(t *testing.T) {
	r := rand.New(rand.NewSource(5))
	for range 3000 {
		letters := []int{1, 2, 4, 26}[r.Intn(4)]
		old, new := text(r, r.Intn(60), letters), text(r, r.Intn(8), letters)
		for range r.Intn(6) {
			i, j := r.Intn(len(old)+1), r.Intn(len(old)+1)
			new += old[min(i, j):max(i, j)] + text(r, r.Intn(8), letters)
		}
		checkMake(t, old, new, r.Intn(12))
	}
}

// P8.5: commands that are written out.
func TestMakeExamples(t *testing.T) {
	for i, c := range []struct {
		old, new string
		block    int
		want     []api.Command
	}{
		{"abcdef", "xcdefab", 2, []api.Command{lit(0, "x"), cp(1, 2, 4), cp(5, 0, 2)}},
		{"abcdef", "xcdefab", 3, []api.Command{lit(0, "x"), cp(1, 2, 4), lit(5, "ab")}},
		{"abcdef", "xcdefab", 4, []api.Command{lit(0, "x"), cp(1, 2, 4), lit(5, "ab")}},
		{"abcdef", "xcdefab", 5, []api.Command{lit(0, "xcdefab")}},
		{"abcdef", "xcdefab", 1, []api.Command{lit(0, "x"), cp(1, 2, 4), cp(5, 0, 2)}},
		{"abcdef", "xcdefab", 0, []api.Command{lit(0, "xcdefab")}},
		{"abcdef", "xcdefab", -1, []api.Command{lit(0, "xcdefab")}},
		// The smallest offset counts, not the longest match.
		{"abxabcdef", "abcdef", 2, []api.Command{cp(0, 0, 2), cp(2, 5, 4)}},
		// A match ends where one of the files ends.
		{"abc", "abcabc", 2, []api.Command{cp(0, 0, 3), cp(3, 0, 3)}},
		{"abcabc", "abc", 2, []api.Command{cp(0, 0, 3)}},
		// A match does not begin before the block, though the bytes before it are equal.
		{"xabcd", "yxabcd", 4, []api.Command{lit(0, "y"), cp(1, 0, 5)}},
		{"xabcd-abcde", "xabcde", 5, []api.Command{cp(0, 0, 5), lit(5, "e")}},
		// Literal bytes before, between and after matches.
		{"abcd", "1abcd22abcd333", 4, []api.Command{lit(0, "1"), cp(1, 0, 4), lit(5, "22"), cp(7, 0, 4), lit(11, "333")}},
		// The block is as long as one of the files, or as both.
		{"abc", "abc", 3, []api.Command{cp(0, 0, 3)}},
		{"abc", "abc", 4, []api.Command{lit(0, "abc")}},
		{"abc", "xabcx", 3, []api.Command{lit(0, "x"), cp(1, 0, 3), lit(4, "x")}},
		{"xabcx", "abc", 3, []api.Command{cp(0, 1, 3)}},
		{"\x00\x00\x00\x00", "\x00\x00\x00", 2, []api.Command{cp(0, 0, 3)}},
		{"", "", 1, nil},
		{"", "a", 1, []api.Command{lit(0, "a")}},
		{"a", "", 1, nil},
	} {
		d := Make([]byte(c.old), []byte(c.new), c.block)
		if !identical(d, of(c.old, c.new, c.want...)) {
			t.Errorf("%d: %v", i, d.Commands)
		}
		checkMake(t, c.old, c.new, c.block)
	}
}

// P8.5: all edges of int as sizes of blocks.
func TestMakeEdges(t *testing.T) {
	for _, block := range edges {
		for _, old := range []string{"", "a", "abcdefgh", "abcdefgabcdefgh"} {
			for _, new := range []string{"", "a", "abcdefgh", "habcdefgabc"} {
				checkMake(t, old, new, block)
			}
		}
	}
}

// parities returns 2^k bytes, the numbers of ones in their offsets modulo 2, each plus a number modulo 2.
// The blocks of 2^11 bytes with the numbers 0 and 1 are different, and have the same hash with each odd base modulo 2^64.
func parities(k, plus int) string {
	b := make([]byte, 1<<k)
	for i := range b {
		b[i] = byte((bits.OnesCount(uint(i)) + plus) % 2)
	}
	return string(b)
}

// P8.5: blocks that have the hash of another block.
func TestMakeEqualHashes(t *testing.T) {
	const size = 1 << 11
	a, b := parities(11, 0), parities(11, 1)
	if hashOf(a) != hashOf(b) {
		t.Fatal("the hashes are not equal")
	}
	const mark = "a mark"
	for i, c := range []struct {
		old, new string
		want     []api.Command
	}{
		{a, a, []api.Command{cp(0, 0, size)}},
		{a, b, []api.Command{lit(0, b)}},
		{a + mark, b + mark, []api.Command{lit(0, b+mark)}},
		{a + mark + b, b, []api.Command{cp(0, size+len(mark), size)}},
		{a + mark + b + mark + b, b + a, []api.Command{cp(0, size+len(mark), size), cp(size, 0, size)}},
		{mark + a + mark + a, b + mark + a, []api.Command{lit(0, b), cp(size, 0, len(mark)+size)}},
	} {
		d := Make([]byte(c.old), []byte(c.new), size)
		if !identical(d, of(c.old, c.new, c.want...)) {
			t.Errorf("%d: %d commands", i, len(d.Commands))
		}
		checkInverse(t, c.old, c.new, d)
	}
}

// hashOf returns the hash of a text that is one block.
func hashOf(s string) uint64 {
	for _, hash := range hashes([]byte(s), len(s)) {
		return hash
	}
	return 0
}

// P8.5: the hash of a block depends on its bytes only, and each block has one.
func TestHashes(t *testing.T) {
	r := rand.New(rand.NewSource(6))
	for n := range 40 {
		s := text(r, n, 3)
		for size := -1; size < n+2; size++ {
			next := 0
			for off, hash := range hashes([]byte(s), size) {
				if off != next || hash != hashOf(s[off:off+size]) {
					t.Errorf("%q, size %d: %d, %d", s, size, off, hash)
				}
				next++
			}
			if count := n - size + 1; size < 1 && next != 0 || size >= 1 && next != max(0, count) {
				t.Errorf("%q, size %d: %d blocks", s, size, next)
			}
		}
	}
	// Blocks that differ have different hashes, or else Make would be slow.
	seen := map[uint64]string{}
	for _, s := range words(12)[1:] {
		if len(s) == 12 {
			if other, ok := seen[hashOf(s)]; ok {
				t.Errorf("%q and %q have the same hash", s, other)
			}
			seen[hashOf(s)] = s
		}
	}
	// The first bytes of a long block matter.
	for i := range 200 {
		b := make([]byte, 200)
		b[i] = 1
		if hashOf(string(b)) == 0 {
			t.Error(i)
		}
	}
}

// P8.5, P1: long files, with which a search of all of the old file at each offset would take very long.
func TestMakeLong(t *testing.T) {
	const size = 1 << 20
	r := rand.New(rand.NewSource(7))
	a, b := text(r, size, 26), text(r, size, 26)
	zeros := string(make([]byte, size))
	for i, c := range []struct {
		old, new string
		block    int
		count    int
	}{
		{a, b, 32, 1},
		{a, a[:size/2] + "-" + a[size/2:], 32, 3},
		{a, a[size/2:] + b[:1000] + a[:size/2], 1 << 10, 3},
		{zeros, zeros, 1, 1},
		{zeros, zeros, size / 2, 1},
		{zeros, "-" + zeros + "-" + zeros, size / 3, 4},
		{a, b, size, 1},
	} {
		d := Make([]byte(c.old), []byte(c.new), c.block)
		if len(d.Commands) != c.count {
			t.Errorf("%d: %d commands", i, len(d.Commands))
		}
		if got := Apply([]byte(c.old), d); string(got) != c.new {
			t.Error(i, "another new file")
		}
	}
}

// Rule 4: results share no memory with the arguments or with each other.
func TestResultsShareNoMemory(t *testing.T) {
	for n := 1; n < 60; n++ {
		old, new := text(rand.New(rand.NewSource(int64(n))), n, 26), text(rand.New(rand.NewSource(99)), n, 26)
		a, b := []byte(old), []byte(new)
		d := of(old, old+new, cp(0, 0, n), lit(n, new))
		first, second := Apply(a, d), Apply(a, d)
		described, again := Describe(a, b, d.Commands...), Describe(a, b, d.Commands...)
		made, same := Make(a, b, n+1), Make(a, b, n+1)
		fill(first)
		for _, r := range []api.Delta{described, made} {
			for i := range r.Commands {
				fill(r.Commands[i].Data)
				r.Commands[i].To = -5
			}
		}
		if string(a) != old || string(b) != new || !identical(d, of(old, old+new, cp(0, 0, n), lit(n, new))) {
			t.Fatal("a result shares memory with an argument")
		}
		clear(a)
		clear(b)
		clear(d.Commands[1].Data)
		if string(second) != old+new || !identical(again, of(old, new, cp(0, 0, n), lit(n, new))) || !identical(same, of(old, new, lit(0, new))) {
			t.Fatal("a result shares memory with an argument or another result")
		}
	}
}

// Rule 4: the literals of one result share no memory.
func TestLiteralsShareNoMemory(t *testing.T) {
	d := Make([]byte("abcd"), []byte("xxabcdyyabcdzz"), 4)
	if len(d.Commands) != 5 {
		t.Fatal(d)
	}
	fill(d.Commands[0].Data)
	fill(d.Commands[4].Data)
	if string(d.Commands[2].Data) != "yy" {
		t.Error(d)
	}
}

// fill overwrites a slice up to its capacity.
func fill(b []byte) {
	b = b[:cap(b)]
	for i := range b {
		b[i] ^= 0xff
	}
}

// Rule 4: arguments are not modified, and nothing is read or written beyond their lengths.
func TestArguments(t *testing.T) {
	long, other := []byte("abcdefghij"), []byte("0123456789")
	old, new := long[:6], other[:4]
	l := []api.Command{lit(3, "xy"), cp(0, 3, 3), {Kind: 7}, cp(9, 9, 9)}
	d := of("abcdef", "defxy", l[:2]...)
	d.Commands = l[:2]
	if got := Apply(old, d); string(got) != "defxy" {
		t.Errorf("%q", got)
	}
	if f := Verify(old, d); f != none {
		t.Error(f)
	}
	if b, ok := Byte(old, d, 5); b != 0 || ok {
		t.Error(b, ok)
	}
	if got := Describe(old, new, l[:2]...); !identical(got, of("abcdef", "0123", l[:2]...)) {
		t.Error(got)
	}
	if got := Make(long[:6], long[2:8], 2); !identical(got, of("abcdef", "cdefgh", cp(0, 2, 4), lit(4, "gh"))) {
		t.Error(got)
	}
	if got := Make(long[4:6], long[:5], 1); !identical(got, of("ef", "abcde", lit(0, "abcd"), cp(4, 0, 1))) {
		t.Error(got)
	}
	if string(long) != "abcdefghij" || string(other) != "0123456789" {
		t.Error("a file is changed")
	}
	if !identical(api.Delta{Commands: l}, api.Delta{Commands: []api.Command{lit(3, "xy"), cp(0, 3, 3), {Kind: 7}, cp(9, 9, 9)}}) {
		t.Error("the commands are changed", l)
	}
}

// P1: nothing panics, whatever the fields of a delta are.
func TestAllArguments(t *testing.T) {
	const old = "abc"
	for _, i := range edges {
		for _, j := range edges {
			for _, k := range edges {
				for _, kind := range []int{math.MinInt, 0, 1, 2, 3} {
					c := api.Command{Kind: kind, To: i, From: j, Len: k}
					checkAll(t, old, of(old, old, c))
					checkAll(t, old, of(old, old, cp(0, 0, 3), c))
					c.Data = []byte("xyz")
					checkAll(t, old, of(old, old, c))
				}
			}
			d := of(old, old, cp(0, 0, 3))
			d.OldLen, d.NewLen = i, j
			checkAll(t, old, d)
			Byte([]byte(old), d, i)
		}
	}
}

// P1: lengths for which there is no memory, in deltas that are rejected.
func TestGreatLengths(t *testing.T) {
	for _, d := range []api.Delta{
		{OldLen: top, NewLen: top, Commands: []api.Command{cp(0, 0, top)}},
		{OldLen: top, NewLen: 1 << 50, Commands: []api.Command{cp(1<<49, 0, 1<<49), cp(0, 1<<49, 1<<49)}},
		{OldLen: 3, NewLen: top, Commands: []api.Command{cp(0, 0, 3), cp(top-3, 0, 3)}},
	} {
		checkAll(t, "abc", d)
	}
	if f := Verify([]byte("abc"), api.Delta{OldLen: top, NewLen: top, Commands: []api.Command{cp(0, 0, top)}}); f != fault(api.ErrOldLen, 3) {
		t.Error(f)
	}
}

// Rule 6: the functions may be called concurrently.
func TestConcurrentCalls(t *testing.T) {
	r := rand.New(rand.NewSource(8))
	old := text(r, 500, 3)
	new := old[300:] + text(r, 100, 3) + old[:200]
	d := Make([]byte(old), []byte(new), 12)
	var all sync.WaitGroup
	for range 4 {
		all.Go(func() {
			for range 20 {
				checkInverse(t, old, new, d)
				if got := Make([]byte(old), []byte(new), 12); !identical(got, d) {
					t.Error(got)
				}
				if b, ok := Byte([]byte(old), d, 250); b != new[250] || !ok {
					t.Error(b, ok)
				}
				if got := Describe([]byte(old), []byte(new), d.Commands...); !identical(got, d) {
					t.Error(got)
				}
			}
		})
	}
	all.Wait()
}
