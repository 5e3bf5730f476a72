package check

import (
	"bytes"
	"hash/crc32"
	"math"
	"math/bits"
	"slices"
	"sync"
	"testing"
)

// text returns n bytes that follow a rule with a long period.
func text(n int) []byte {
	b := make([]byte, n)
	x := uint32(n)
	for i := range b {
		x = x*1664525 + 1013904223
		b[i] = byte(x >> 24)
	}
	return b
}

// shifted returns what 8 shifts make of a register, one after the other.
func shifted(r uint32) uint32 {
	for range 8 {
		out := r & 1
		r >>= 1
		if out == 1 {
			r ^= 0xEDB88320
		}
	}
	return r
}

// defined returns the checksum by its definition.
func defined(b []byte) uint32 {
	r := uint32(0xFFFFFFFF)
	for _, v := range b {
		r = shifted(r ^ uint32(v))
	}
	return ^r
}

// sealed returns the sealed record by its definition.
func sealed(b []byte) []byte {
	s := defined(b)
	return append(slices.Clone(b), byte(s), byte(s>>8), byte(s>>16), byte(s>>24))
}

// flipped returns a copy of bytes in which one bit is flipped.
func flipped(b []byte, bit int) []byte {
	c := slices.Clone(b)
	c[bit/8] ^= 1 << (bit % 8)
	return c
}

// contents returns bytes of a length: by a rule, and all equal.
func contents(n int) [][]byte {
	return [][]byte{text(n), make([]byte, n), bytes.Repeat([]byte{0xff}, n), bytes.Repeat([]byte{0x80}, n), bytes.Repeat([]byte{1}, n)}
}

// opens reports an error unless Open returns some content for a record.
func opens(t *testing.T, record, content []byte) {
	t.Helper()
	if got, ok := Open(record); !ok || !bytes.Equal(got, content) {
		t.Errorf("Open(%x) = %x, %v", record, got, ok)
	}
}

// rejects reports an error unless Open returns no bytes and false.
func rejects(t *testing.T, record []byte) {
	t.Helper()
	if got, ok := Open(record); ok || len(got) != 0 {
		t.Errorf("Open(%x) = %x, %v", record, got, ok)
	}
}

// The checksum: the words of the tables, by its definition.
func TestTables(t *testing.T) {
	for i := range uint32(16) {
		if lowHalf[i] != shifted(i) || highHalf[i] != shifted(16*i) {
			t.Errorf("%d: %08x and %08x", i, lowHalf[i], highHalf[i])
		}
	}
}

// P3.1: checksums that are known.
func TestKnownChecksums(t *testing.T) {
	for _, c := range []struct {
		s    string
		want uint32
	}{
		{"", 0},
		{"\x00", 0xD202EF8D},
		{"\xff", 0xFF000000},
		{"\xff\xff\xff\xff", 0xFFFFFFFF},
		{"a", 0xE8B7BE43},
		{"abc", 0x352441C2},
		{"message digest", 0x20159D7F},
		{"123456789", 0xCBF43926},
	} {
		if got := Of([]byte(c.s)); got != c.want {
			t.Errorf("Of(%q) = %08x", c.s, got)
		}
		if got := Extend(0, []byte(c.s)); got != c.want {
			t.Errorf("Extend(0, %q) = %08x", c.s, got)
		}
	}
}

// P3.1: each single byte, and every length up to a limit.
func TestAllLengths(t *testing.T) {
	for v := range 256 {
		b := []byte{byte(v)}
		if got := Of(b); got != defined(b) {
			t.Errorf("Of(%v) = %08x", b, got)
		}
	}
	for n := range 400 {
		for _, b := range contents(n) {
			if got := Of(b); got != defined(b) || got != crc32.ChecksumIEEE(b) {
				t.Errorf("Of %d bytes = %08x", n, got)
			}
		}
	}
	b := text(1 << 22)
	if got := Of(b); got != crc32.ChecksumIEEE(b) {
		t.Errorf("Of %d bytes = %08x", len(b), got)
	}
}

// P3.1: each division into three parts, of one call and of several.
func TestDivisions(t *testing.T) {
	b := text(120)
	want := defined(b)
	for i := range len(b) + 1 {
		for j := i; j <= len(b); j++ {
			if Of(b[:i], b[i:j], b[j:]) != want {
				t.Fatalf("Of, divided at %d and %d", i, j)
			}
			if Extend(Of(b[:i]), b[i:j], b[j:]) != want {
				t.Fatalf("Extend, divided at %d and %d", i, j)
			}
			if Extend(Extend(Of(b[:i]), b[i:j]), b[j:]) != want {
				t.Fatalf("Extend twice, divided at %d and %d", i, j)
			}
		}
	}
}

// P3.1: parts may be empty or missing, and their order matters.
func TestParts(t *testing.T) {
	a, b := text(70), text(9)
	if Of() != 0 || Of(nil) != 0 || Of(nil, []byte{}, nil) != 0 || Of([][]byte{}...) != 0 {
		t.Error("Of without bytes")
	}
	if Of(nil, a, []byte{}, nil, b, nil) != defined(slices.Concat(a, b)) {
		t.Error("Of with empty parts")
	}
	if Extend(defined(a), nil, b, []byte{}, a) != defined(slices.Concat(a, b, a)) {
		t.Error("Extend with empty parts")
	}
	if Of(a, b) != defined(slices.Concat(a, b)) || Of(b, a) != defined(slices.Concat(b, a)) {
		t.Error("the parts were taken in another order")
	}
	if Extend(Of(b), a) != defined(slices.Concat(b, a)) || Extend(Of(a), b) != defined(slices.Concat(a, b)) {
		t.Error("Extend took the parts in another order")
	}
}

// before returns 4 bytes with a checksum, by undoing the shifts of its register.
func before(sum uint32) []byte {
	r := ^sum
	for range 32 {
		// The word that is combined has its highest bit set, and shifted registers have not.
		out := r >> 31
		r = (r^out*0xEDB88320)<<1 | out
	}
	r ^= 0xFFFFFFFF
	return []byte{byte(r), byte(r >> 8), byte(r >> 16), byte(r >> 24)}
}

// P3.1: Extend with any sum, even if no bytes follow.
func TestExtendAnySum(t *testing.T) {
	sums := []uint32{0, 1, math.MaxUint32, math.MaxUint32 - 1, 1 << 31, 1<<31 - 1, 0xEDB88320, 0xCBF43926}
	for i := range uint32(32) {
		sums = append(sums, 1<<i, ^(1 << i), i*0x9E3779B9)
	}
	for _, s := range sums {
		first := before(s)
		if defined(first) != s {
			t.Fatalf("%x has another checksum than %08x", first, s)
		}
		if Extend(s) != s || Extend(s, nil) != s || Extend(s, nil, []byte{}) != s {
			t.Errorf("Extend(%08x) by no bytes", s)
		}
		for n := range 20 {
			b := text(n)
			if got := Extend(s, b[:n/2], b[n/2:]); got != defined(append(first, b...)) {
				t.Errorf("Extend(%08x) by %d bytes = %08x", s, n, got)
			}
		}
	}
}

// P3.2: sealed records of every length up to a limit; Open inverts Seal.
func TestSealAndOpen(t *testing.T) {
	for n := range 200 {
		for _, b := range contents(n) {
			r := Seal(b)
			if !bytes.Equal(r, sealed(b)) {
				t.Errorf("Seal(%x) = %x", b, r)
			}
			opens(t, r, b)
			// A sealed record may be the content of another one.
			opens(t, Seal(r), r)
		}
	}
	if r := Seal([]byte("123456789")); string(r) != "123456789\x26\x39\xf4\xcb" {
		t.Errorf("%x", r)
	}
}

// P3.2: the sealed record of no bytes.
func TestSealNoBytes(t *testing.T) {
	for _, b := range [][]byte{nil, {}} {
		if r := Seal(b); !bytes.Equal(r, make([]byte, 4)) {
			t.Errorf("Seal without bytes = %x", r)
		}
	}
	opens(t, make([]byte, 4), nil)
}

// P3.2: each byte string of up to 2 bytes, and others that are too short or have no checksum, are no sealed records.
func TestOpenRejects(t *testing.T) {
	rejects(t, nil)
	rejects(t, []byte{})
	for v := range 256 {
		rejects(t, []byte{byte(v)})
		for w := range 256 {
			rejects(t, []byte{byte(v), byte(w)})
		}
	}
	for _, b := range []string{"\x00\x00\x00", "\xff\xff\xff", "abc", "abcd", "\x00\x00\x00\x01", "\x01\x00\x00\x00", "\xff\xff\xff\xff", "\x00\x00\x00\x00\x00"} {
		rejects(t, []byte(b))
	}
	for n := range 60 {
		b := text(n + 1)
		r := Seal(b)
		for k := range r {
			rejects(t, r[:k])
		}
		s := defined(b)
		for _, end := range []uint32{bits.ReverseBytes32(s), bits.Reverse32(s), ^s, s + 1, s - 1, 0} {
			if end != s {
				rejects(t, append(slices.Clone(b), byte(end), byte(end>>8), byte(end>>16), byte(end>>24)))
			}
		}
		rejects(t, append(r[len(b):], b...))
	}
}

// P3.2: Open accepts the record with the right checksum only.
func TestOpenByDefinition(t *testing.T) {
	for n := range 40 {
		b := text(n)
		for v := range 256 {
			for place := range 4 {
				r := sealed(b)
				same := r[n+place] == byte(v)
				r[n+place] = byte(v)
				if same {
					opens(t, r, b)
				} else {
					rejects(t, r)
				}
			}
		}
	}
}

// P3.3: each bit of short bytes, whatever they are.
func TestFlip(t *testing.T) {
	for n := 1; n < 40; n++ {
		for _, b := range contents(n) {
			for bit := range 8 * n {
				want := defined(b) ^ defined(flipped(b, bit))
				if got := Flip(n, bit); got != want || got == 0 {
					t.Errorf("Flip(%d, %d) = %08x, not %08x", n, bit, got, want)
				}
			}
		}
	}
}

// P3.3: the greatest length and others that are long.
func TestFlipLong(t *testing.T) {
	for _, n := range []int{255, 256, 4097, 1<<16 - 1, 1 << 16} {
		b := text(n)
		for _, bit := range []int{0, 1, 7, 8, 9, 4*n - 1, 4 * n, 8*n - 9, 8*n - 8, 8*n - 1} {
			want := crc32.ChecksumIEEE(b) ^ crc32.ChecksumIEEE(flipped(b, bit))
			if got := Flip(n, bit); got != want || got == 0 {
				t.Errorf("Flip(%d, %d) = %08x, not %08x", n, bit, got, want)
			}
		}
	}
}

// P3.3: lengths that are not allowed and bits that do not exist; P1: any int.
func TestFlipRejects(t *testing.T) {
	edges := []int{math.MinInt, math.MinInt + 1, -1 << 32, -1 << 16, -9, -8, -1, 0, 1, 7, 8, 1 << 16, 1<<16 + 1, 1 << 19, 1<<19 + 1, 1 << 29, 1 << 32, 1 << 60, 1 << 61, math.MaxInt/8 + 1, math.MaxInt - 1, math.MaxInt}
	for _, n := range edges {
		for _, bit := range edges {
			exists := n >= 1 && n <= 1<<16 && bit >= 0 && bit/8 < n
			if got := Flip(n, bit); (got != 0) != exists {
				t.Errorf("Flip(%d, %d) = %08x", n, bit, got)
			}
		}
	}
	for n := 1; n < 300; n++ {
		if Flip(n, 8*n) != 0 || Flip(n, 8*n+1) != 0 || Flip(n, -1) != 0 || Flip(-n, 0) != 0 || Flip(1<<16+n, 0) != 0 {
			t.Errorf("Flip of %d bytes", n)
		}
		if Flip(n, 8*n-1) == 0 || Flip(n, 0) == 0 {
			t.Errorf("Flip of %d bytes returns 0", n)
		}
	}
}

// P3.4: a sealed record in which one bit is flipped.
func TestOneBit(t *testing.T) {
	for n := range 40 {
		for _, b := range contents(n) {
			r := Seal(b)
			for bit := range 8 * len(r) {
				rejects(t, flipped(r, bit))
			}
		}
	}
	r := Seal(text(1 << 16))
	for bit := 0; bit < 8*len(r); bit += 4999 {
		rejects(t, flipped(r, bit))
	}
}

// changed returns a copy of bytes in which the bits of a pattern are flipped, from a bit on.
func changed(b []byte, from int, pattern uint32) []byte {
	c := slices.Clone(b)
	for k := range 32 {
		if pattern>>k&1 == 1 {
			c[(from+k)/8] ^= 1 << ((from + k) % 8)
		}
	}
	return c
}

// P3.4: a sealed record in which bits are changed within 32 consecutive bits.
func TestConsecutiveBits(t *testing.T) {
	patterns := []uint32{math.MaxUint32, 0xEDB88320, 0xDB710641, 0x04C11DB7, 0x82608EDB, 1<<31 | 1, 0xAAAAAAAA, 0x55555555}
	for p := range uint32(256) {
		patterns = append(patterns, p+1, (p+1)<<24|1, (p+1)*0x9E3779B9)
	}
	for n := range 12 {
		r := Seal(text(n))
		for from := range 8*len(r) - 31 {
			for _, p := range patterns {
				if p != 0 {
					rejects(t, changed(r, from, p))
				}
			}
		}
	}
}

// Rule 4: arguments are not modified.
func TestArguments(t *testing.T) {
	for n := range 100 {
		b, want := text(n), text(n)
		Of(b[:n/2], b[n/2:])
		Extend(5, b, b[:n/2])
		Seal(b)
		Open(b)
		if !bytes.Equal(b, want) {
			t.Fatalf("%d bytes were modified", n)
		}
		r, record := sealed(b), sealed(b)
		Open(r)
		if !bytes.Equal(r, record) {
			t.Fatalf("a record of %d bytes was modified", n)
		}
	}
}

// Rule 4: bytes beyond the length of a slice are neither read nor written.
func TestBeyondTheLength(t *testing.T) {
	for n := range 60 {
		long := text(200)
		r := Seal(long[:n])
		if !bytes.Equal(r, sealed(slices.Clone(long[:n]))) || Of(long[:n]) != defined(long[:n]) || Extend(7, long[:n]) != Extend(7, slices.Clone(long[:n])) {
			t.Errorf("bytes after the first %d were read", n)
		}
		whole := append(slices.Clone(r), 1, 2, 3, 4, 5)
		opens(t, whole[:len(r)], long[:n])
		rejects(t, whole[:len(r)-1])
		if !bytes.Equal(long, text(200)) || !bytes.Equal(whole, append(slices.Clone(r), 1, 2, 3, 4, 5)) {
			t.Errorf("bytes after the first %d were written", n)
		}
	}
}

// Rule 4: results share no memory with arguments or with other results, not even beyond their length.
func TestResultsShareNoMemory(t *testing.T) {
	for n := range 60 {
		b := append(make([]byte, 0, 100), text(n)...)
		first, second := Seal(b), Seal(b)
		fill(first)
		if !bytes.Equal(second, sealed(text(n))) || !bytes.Equal(b, text(n)) {
			t.Fatalf("Seal of %d bytes shares memory", n)
		}
		one, _ := Open(second)
		two, _ := Open(second)
		fill(one)
		if !bytes.Equal(two, text(n)) || !bytes.Equal(second, sealed(text(n))) {
			t.Fatalf("Open of %d bytes shares memory", n)
		}
		fill(two)
		if !bytes.Equal(second, sealed(text(n))) {
			t.Fatalf("Open of %d bytes shares memory with the record", n)
		}
	}
}

// fill overwrites a slice up to its capacity.
func fill(b []byte) {
	b = b[:cap(b)]
	for i := range b {
		b[i] ^= 0xff
	}
}

// Rules 6 and 7: the functions may be called concurrently, and their results depend on the arguments only.
func TestConcurrentCalls(t *testing.T) {
	var group sync.WaitGroup
	wrong := make([]bool, 8)
	for i := range wrong {
		group.Go(func() {
			for n := range 100 {
				b := text(100*i + n + 1)
				c, ok := Open(Seal(b))
				wrong[i] = wrong[i] || Of(b[:n], b[n:]) != crc32.ChecksumIEEE(b) || !ok || !bytes.Equal(b, c)
				wrong[i] = wrong[i] || Flip(len(b), n) != crc32.ChecksumIEEE(b)^crc32.ChecksumIEEE(flipped(b, n))
			}
		})
	}
	group.Wait()
	for i, w := range wrong {
		if w {
			t.Errorf("goroutine %d had other results", i)
		}
	}
}
