package sha

import (
	"bytes"
	"crypto/sha256"
	"encoding/hex"
	"math/big"
	"strings"
	"sync"
	"testing"
)

// text returns n bytes that follow a rule with a long period.
func text(n int) []byte {
	b := make([]byte, n)
	x := uint32(n)
	for i := range b {
		x = x*1664525 + 1013904223
		b[i] = byte(x >> 24)
	}
	return b
}

// taken returns a hash that has taken some parts.
func taken(parts ...[]byte) *Hash {
	h := New()
	h.Write(parts...)
	return h
}

// check compares the digest and the length of a hash with those of some bytes.
func check(t *testing.T, h *Hash, b []byte) {
	t.Helper()
	if got := h.Sum(); got != sha256.Sum256(b) {
		t.Errorf("the digest of %d bytes is %x", len(b), got)
	}
	if got := h.Len(); got != len(b) {
		t.Errorf("the length of %d bytes is %d", len(b), got)
	}
}

// fraction returns the first 32 bits of the fractional part of a root of a number, by bisection.
func fraction(n, degree int64) uint32 {
	low, high := big.NewInt(0), new(big.Int).Lsh(big.NewInt(n), 32)
	power := new(big.Int).Lsh(big.NewInt(n), uint(32*degree))
	for low.Cmp(high) < 0 {
		mid := new(big.Int).Add(low, high)
		mid.Add(mid, big.NewInt(1)).Rsh(mid, 1)
		if new(big.Int).Exp(mid, big.NewInt(degree), nil).Cmp(power) <= 0 {
			low = mid
		} else {
			high = mid.Sub(mid, big.NewInt(1))
		}
	}
	return uint32(low.Uint64())
}

// The digest: the words of the tables, by their definition.
func TestTables(t *testing.T) {
	i := 0
	for n := int64(2); i < len(cubeRoots); n++ {
		if !big.NewInt(n).ProbablyPrime(0) {
			continue
		}
		if got := fraction(n, 3); got != cubeRoots[i] {
			t.Errorf("the cube root of %d: %08x, not %08x", n, got, cubeRoots[i])
		}
		if i < len(squareRoots) && fraction(n, 2) != squareRoots[i] {
			t.Errorf("the square root of %d: %08x, not %08x", n, fraction(n, 2), squareRoots[i])
		}
		i++
	}
}

// The digest: the ends of messages, by their description; also of those that no test could write.
func TestEnding(t *testing.T) {
	for _, from := range []int{0, 1<<29 - 1, 1 << 29, 1<<31 - 129, 1 << 40} {
		for n := from; n < from+129; n++ {
			e := ending(n)
			if len(e) < 9 || len(e) > 72 || (n+len(e))%64 != 0 {
				t.Fatalf("%d bytes end with %d bytes", n, len(e))
			}
			want := append([]byte{0x80}, make([]byte, len(e)-9)...)
			want = append(want, big.NewInt(int64(n)*8).FillBytes(make([]byte, 8))...)
			if !bytes.Equal(e, want) {
				t.Errorf("%d bytes end with %x", n, e)
			}
		}
	}
}

// P2.1 and P2.2: digests that are known.
func TestKnownDigests(t *testing.T) {
	for _, c := range []struct{ s, want string }{
		{"", "e3b0c44298fc1c149afbf4c8996fb92427ae41e4649b934ca495991b7852b855"},
		{"abc", "ba7816bf8f01cfea414140de5dae2223b00361a396177a9cb410ff61f20015ad"},
		{"abcdbcdecdefdefgefghfghighijhijkijkljklmklmnlmnomnopnopq", "248d6a61d20638b8e5c026930c3e6039a33ce45964ff2167f6ecedd419db06c1"},
		{"abcdefghbcdefghicdefghijdefghijkefghijklfghijklmghijklmnhijklmnoijklmnopjklmnopqklmnopqrlmnopqrsmnopqrstnopqrstu", "cf5b16a778af8380036ce59e7b0492370b249b11e8f07a51afac45037afee9d1"},
		{strings.Repeat("a", 1000000), "cdc76e5c9914fb9281a1c7e284d73e67f1809a48a497200e046d39ccc7112cd0"},
	} {
		if got := Format(Of([]byte(c.s))); got != c.want {
			t.Errorf("Of %d bytes = %s", len(c.s), got)
		}
		if got := Format(taken([]byte(c.s)).Sum()); got != c.want {
			t.Errorf("Sum of %d bytes = %s", len(c.s), got)
		}
	}
}

// P2.1 and P2.2: every length up to some blocks, and contents of equal bytes.
func TestAllLengths(t *testing.T) {
	for n := range 400 {
		for _, b := range [][]byte{text(n), make([]byte, n), bytes.Repeat([]byte{0xff}, n), bytes.Repeat([]byte{0x80}, n)} {
			if got := Of(b); got != sha256.Sum256(b) {
				t.Errorf("Of %d bytes = %x", n, got)
			}
			check(t, taken(b), b)
		}
	}
}

// P2.1: a message of more than 2^32 bits, whose number needs more than 4 bytes.
func TestLongMessage(t *testing.T) {
	part, n := text(1<<20), 1<<9+1
	h, want := New(), sha256.New()
	for range n {
		h.Write(part)
		want.Write(part)
	}
	if got := h.Sum(); !bytes.Equal(got[:], want.Sum(nil)) || h.Len() != n<<20 {
		t.Errorf("%x, %d", got, h.Len())
	}
}

// P2.1: a new hash has taken no bytes.
func TestNew(t *testing.T) {
	check(t, New(), nil)
}

// P2.1: the number of bytes of all parts; parts may be empty or missing.
func TestWriteReturnsNumber(t *testing.T) {
	h, n := New(), 0
	for i, parts := range [][][]byte{
		nil,
		{},
		{nil},
		{{}, nil, {}},
		{text(1)},
		{text(63), nil},
		{nil, text(64)},
		{text(5), nil, text(60), {}, text(64), text(200)},
		{nil},
	} {
		want := len(bytes.Join(parts, nil))
		n += want
		if got := h.Write(parts...); got != want || h.Len() != n {
			t.Errorf("%d: Write = %d, Len = %d", i, got, h.Len())
		}
	}
}

// P2.1: Sum changes nothing, and further bytes may follow.
func TestSumBetweenWrites(t *testing.T) {
	for _, step := range []int{1, 7, 55, 56, 63, 64, 65, 130} {
		b := text(400)
		h := New()
		for end := step; end <= len(b); end += step {
			if got := h.Write(b[end-step : end]); got != step {
				t.Errorf("Write of %d bytes = %d", step, got)
			}
			check(t, h, b[:end])
			check(t, h, b[:end])
		}
	}
}

// P2.1 and P2.4: each division into three parts, of one Write, of several, and of Of.
func TestDivisions(t *testing.T) {
	b := text(200)
	want := sha256.Sum256(b)
	for i := range len(b) + 1 {
		for j := i; j <= len(b); j++ {
			if Of(b[:i], b[i:j], b[j:]) != want {
				t.Fatalf("Of, divided at %d and %d", i, j)
			}
			if taken(b[:i], b[i:j], b[j:]).Sum() != want {
				t.Fatalf("one Write, divided at %d and %d", i, j)
			}
			h := taken(b[:i])
			h.Write(b[i:j])
			h.Write()
			h.Write(b[j:])
			if h.Sum() != want || h.Len() != len(b) {
				t.Fatalf("three Writes, divided at %d and %d", i, j)
			}
		}
	}
}

// P2.1 and P2.2: the order of the parts matters.
func TestOrder(t *testing.T) {
	a, b := text(70), text(9)
	if Of(a, b) != sha256.Sum256(append(text(70), b...)) || Of(b, a) != sha256.Sum256(append(text(9), a...)) {
		t.Error("the parts were taken in another order")
	}
	if Of() != sha256.Sum256(nil) || Of(nil) != Of() || Of(nil, []byte{}) != Of() {
		t.Error("Of without bytes")
	}
}

// P2.2: a clone has taken the same bytes, and neither hash changes with the other one.
func TestClone(t *testing.T) {
	for n := range 200 {
		b, x, y := text(n), text(n%70+1), text(67)
		h := taken(b)
		c := h.Clone()
		check(t, c, b)
		if got := c.Write(x); got != len(x) {
			t.Errorf("Write to a clone = %d", got)
		}
		check(t, c, bytes.Join([][]byte{b, x}, nil))
		check(t, h, b)
		h.Write(y)
		check(t, h, bytes.Join([][]byte{b, y}, nil))
		check(t, c, bytes.Join([][]byte{b, x}, nil))
		second := c.Clone()
		second.Write(y)
		check(t, second, bytes.Join([][]byte{b, x, y}, nil))
		check(t, c, bytes.Join([][]byte{b, x}, nil))
	}
}

// P2.3: digits of every byte at every place; Parse inverts Format.
func TestFormatAndParse(t *testing.T) {
	for i := range 32 {
		for v := range 256 {
			d := Of([]byte{byte(i)})
			d[i] = byte(v)
			s := Format(d)
			if s != hex.EncodeToString(d[:]) {
				t.Errorf("Format(%v) = %q", d, s)
			}
			if got, ok := Parse(s); got != d || !ok {
				t.Errorf("Parse(%q) = %v, %v", s, got, ok)
			}
		}
	}
	for _, d := range []string{strings.Repeat("0", 64), strings.Repeat("f", 64), strings.Repeat("09af", 16)} {
		if got, ok := Parse(d); !ok || Format(got) != d {
			t.Errorf("Parse(%q) = %v, %v", d, got, ok)
		}
	}
}

// P2.3: strings that are no digits of a digest.
func TestParseRejects(t *testing.T) {
	good := Format(Of([]byte("abc")))
	bad := []string{
		"", "b", "ba", good[:62], good[:63], good + "0", good + "00", good + good, " " + good, good + "\n", "0x" + good[2:],
		strings.ToUpper(good), strings.Repeat("F", 64), strings.Repeat("\u00e9", 32), strings.Repeat("\u00e9", 64), strings.Repeat("\uff10", 64),
		strings.Repeat("\x00", 64), strings.Repeat("\xff", 64), good[:62] + "\u00e9",
	}
	for n := range 200 {
		if n != 64 {
			bad = append(bad, strings.Repeat("0", n))
		}
	}
	for i := range len(good) {
		for v := range 256 {
			if !strings.Contains(digits, string([]byte{byte(v)})) {
				bad = append(bad, good[:i]+string([]byte{byte(v)})+good[i+1:])
			}
		}
	}
	for _, s := range bad {
		if d, ok := Parse(s); d != [32]byte{} || ok {
			t.Errorf("Parse(%q) = %v, %v", s, d, ok)
		}
	}
}

// The section "Functions": a nil Hash.
func TestNilHash(t *testing.T) {
	var h *Hash
	if h.Write() != 0 || h.Write(nil) != 0 || h.Write([]byte("abc"), text(100)) != 0 {
		t.Error("Write")
	}
	if h.Sum() != [32]byte{} {
		t.Error("Sum")
	}
	if h.Len() != 0 {
		t.Error("Len")
	}
	if h.Clone() != nil {
		t.Error("Clone")
	}
}

// P2: hashes that were created separately do not change with each other.
func TestHashesAreIndependent(t *testing.T) {
	hashes := make([]*Hash, 5)
	for i := range hashes {
		hashes[i] = New()
	}
	written := make([][]byte, len(hashes))
	for n := range 150 {
		i := n % len(hashes)
		b := text(n)
		hashes[i].Write(b)
		written[i] = append(written[i], b...)
		for j, h := range hashes {
			check(t, h, written[j])
		}
	}
	check(t, New(), nil)
}

// Rule 4: arguments are not modified, and may be modified after the call.
func TestArguments(t *testing.T) {
	for n := range 200 {
		b, want := text(n), text(n)
		h := taken(b[:n/2], b[n/2:])
		Of(b, b[:n/2])
		h.Sum()
		if !bytes.Equal(b, want) {
			t.Fatalf("%d bytes were modified", n)
		}
		clear(b)
		check(t, h, want)
	}
}

// Rule 4: bytes beyond the length of a part are neither read nor written.
func TestBeyondTheLength(t *testing.T) {
	for n := range 130 {
		long, other := text(200), text(200)
		for i := n; i < len(other); i++ {
			other[i]++
		}
		h := taken(long[:n])
		h.Write(long[:n/3])
		g := taken(other[:n])
		g.Write(other[:n/3])
		if h.Sum() != g.Sum() || Of(long[:n]) != Of(other[:n]) {
			t.Errorf("bytes after the first %d were read", n)
		}
		if !bytes.Equal(long, text(200)) {
			t.Errorf("bytes after the first %d were written", n)
		}
	}
}

// Rule 6: the functions of the package may be called concurrently.
func TestConcurrentCalls(t *testing.T) {
	var group sync.WaitGroup
	wrong := make([]bool, 8)
	for i := range wrong {
		group.Go(func() {
			for n := range 100 {
				b := text(100*i + n)
				d := Of(b[:n], b[n:])
				e, ok := Parse(Format(d))
				wrong[i] = wrong[i] || d != sha256.Sum256(b) || e != d || !ok || taken(b).Clone().Sum() != d
			}
		})
	}
	group.Wait()
	for i, w := range wrong {
		if w {
			t.Errorf("goroutine %d had other results", i)
		}
	}
}
