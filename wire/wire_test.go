package wire

import (
	"bytes"
	"math"
	"math/big"
	"math/rand"
	"slices"
	"sync"
	"testing"

	"graft/api"
)

// edges are ints at which sums overflow, or which are not permitted as a size or a number of bytes.
var edges = []int{
	math.MinInt, math.MinInt + 1, -api.MaxLen, -9, -8, -7, -1, 0, 1, 2, 3, 4, 5, 6, 7, 8, 9, 10, 15, 16, 63, 64, 65, 256,
	1<<31 - 1, 1 << 31, 1 << 32, 1<<61 - 1, 1 << 61, api.MaxLen - 1, api.MaxLen, api.MaxLen + 1, math.MaxInt - 1, math.MaxInt,
}

// codes are error codes, of which some have no name.
var codes = []api.Errno{math.MinInt, -1, api.ErrNil, api.ErrRange, api.ErrShort, api.ErrMagic, api.ErrName, 23, math.MaxInt}

// none is the Fault of a reader without an error.
var none = api.Fault{}

// fault returns a Fault.
func fault(code api.Errno, at int) api.Fault { return api.Fault{Code: code, At: at} }

// text returns n bytes that are all different if there are at most 256.
func text(n int) []byte {
	b := make([]byte, n)
	for i := range b {
		b[i] = byte(7*i + 1)
	}
	return b
}

// values returns the numbers around each power of two.
func values() []uint64 {
	l := []uint64{0x0102030405060708, 0xf0e0d0c0b0a09080, 0x8877665544332211}
	for shift := range 64 {
		l = append(l, 1<<shift-1, 1<<shift, 1<<shift+1)
	}
	return append(l, math.MaxUint64-1, math.MaxUint64)
}

// number returns the bytes of a number with a size, and whether it fits.
func number(value uint64, size int) ([]byte, bool) {
	n := new(big.Int).SetUint64(value)
	if size < 1 || size > 8 || n.BitLen() > 8*size {
		return nil, false
	}
	return n.FillBytes(make([]byte, size)), true
}

// valueOf returns the number that some bytes mean.
func valueOf(b []byte) uint64 { return new(big.Int).SetBytes(b).Uint64() }

// model is a reader by its definition.
type model struct {
	all   []byte
	at    int
	fault api.Fault
}

func (m *model) fail(code api.Errno, at int) {
	if m.fault == none && code != api.OK {
		m.fault = fault(code, at)
	}
}

func (m *model) bytes(n int) []byte {
	switch {
	case m.fault != none:
	case n < 0:
		m.fault = fault(api.ErrRange, m.at)
	case n > len(m.all)-m.at:
		m.fault = fault(api.ErrShort, len(m.all))
	default:
		m.at += n
		return m.all[m.at-n : m.at]
	}
	return nil
}

func (m *model) uint(size int) uint64 {
	if m.fault == none && (size < 1 || size > 8) {
		m.fault = fault(api.ErrRange, m.at)
	}
	return valueOf(m.bytes(size))
}

func (m *model) length() int {
	before := m.at
	n := m.uint(8)
	if n >= 1<<62 {
		m.fault = fault(api.ErrRange, before)
		return 0
	}
	return int(n)
}

func (m *model) expect(b []byte, code api.Errno) bool {
	if m.fault != none {
		return false
	}
	rest := m.all[m.at:]
	for i := range b {
		if i == len(rest) {
			m.fail(api.ErrShort, len(m.all))
			return false
		}
		if rest[i] != b[i] {
			m.fail(code, m.at)
			return false
		}
	}
	m.at += len(b)
	return true
}

// call is a call of a method of a reader.
type call struct {
	method string
	n      int
	b      []byte
	code   api.Errno
}

// same makes a call for a reader and for its model, and compares the results, the offsets and the faults.
func same(t *testing.T, r *Reader, m *model, c call) bool {
	t.Helper()
	ok := true
	switch c.method {
	case "Uint":
		ok = r.Uint(c.n) == m.uint(c.n)
	case "Length":
		ok = r.Length() == m.length()
	case "Bytes":
		ok = bytes.Equal(r.Bytes(c.n), m.bytes(c.n))
	case "Expect":
		ok = r.Expect(c.b, c.code) == m.expect(c.b, c.code)
	case "Fail":
		r.Fail(c.code, c.n)
		m.fail(c.code, c.n)
	}
	if !ok || r.At() != m.at || r.Rest() != len(m.all)-m.at || r.Fault() != m.fault {
		t.Errorf("%v of %v: %v, the reader is at %d (rest %d) with %v, and should be at %d with %v",
			c, m.all, ok, r.At(), r.Rest(), r.Fault(), m.at, m.fault)
		return false
	}
	return true
}

// readings are calls of all reading methods that would succeed with 8 bytes or more.
func readings() []call {
	return []call{{method: "Uint", n: 1}, {method: "Length"}, {method: "Bytes", n: 1}, {method: "Bytes"}, {method: "Expect"}}
}

// P6.1: each number around a power of two, with each size.
func TestAppendOne(t *testing.T) {
	before := []byte{7, 0, 255}
	for _, v := range values() {
		for _, size := range edges {
			n, fits := number(v, size)
			got, ok := Append(before, Field{Value: v, Size: size})
			if want := append(slices.Clone(before), n...); ok != fits || fits && !bytes.Equal(got, want) || !fits && len(got) != 0 {
				t.Errorf("%d with the size %d: %v, %v", v, size, got, ok)
			}
		}
	}
}

// P6.1: the example, and results that are written out.
func TestAppendExamples(t *testing.T) {
	for i, c := range []struct {
		b    []byte
		l    []Field
		want []byte
	}{
		{nil, nil, nil},
		{[]byte{}, []Field{}, nil},
		{[]byte{9, 8}, nil, []byte{9, 8}},
		{nil, []Field{{258, 3}}, []byte{0, 1, 2}},
		{[]byte{9}, []Field{{258, 3}}, []byte{9, 0, 1, 2}},
		{nil, []Field{{0, 1}, {0, 2}}, []byte{0, 0, 0}},
		{[]byte{0}, []Field{{1, 1}, {2, 2}, {3, 1}, {4, 4}}, []byte{0, 1, 0, 2, 3, 0, 0, 0, 4}},
		{nil, []Field{{math.MaxUint64, 8}, {1 << 63, 8}}, []byte{255, 255, 255, 255, 255, 255, 255, 255, 128, 0, 0, 0, 0, 0, 0, 0}},
	} {
		if got, ok := Append(c.b, c.l...); !ok || !bytes.Equal(got, c.want) {
			t.Errorf("%d: %v, %v", i, got, ok)
		}
	}
}

// P6.1: a list is rejected if any of its numbers is wrong, in whatever place.
func TestAppendRejects(t *testing.T) {
	wrong := []Field{{0, 0}, {0, 9}, {0, -1}, {1, math.MinInt}, {1, math.MaxInt}, {256, 1}, {1 << 56, 7}, {math.MaxUint64, 7}}
	for n := 1; n <= 5; n++ {
		for at := range n {
			for _, f := range wrong {
				l := slices.Repeat([]Field{{1, 2}}, n)
				if got, ok := Append([]byte{1}, l...); !ok || len(got) != 1+2*n {
					t.Errorf("%v: %v, %v", l, got, ok)
				}
				l[at] = f
				if got, ok := Append([]byte{1}, l...); ok || len(got) != 0 {
					t.Errorf("%v: %v, %v", l, got, ok)
				}
			}
		}
	}
}

// P6.1, rule 4: the result is new memory, and nothing is written or read beyond the length of an argument.
func TestAppendArguments(t *testing.T) {
	for _, n := range []int{0, 1, 5, 64} {
		all := text(n + 64)
		b := all[:n]
		fields := []Field{{258, 3}, {7, 1}, {1, 0}}
		for _, l := range [][]Field{nil, fields[:2]} {
			got, ok := Append(b, l...)
			if !ok || !bytes.Equal(got[:n], b) {
				t.Fatal(n, got, ok)
			}
			if !bytes.Equal(all, text(n+64)) || !slices.Equal(fields, []Field{{258, 3}, {7, 1}, {1, 0}}) {
				t.Errorf("%d: the arguments are changed: %v, %v", n, all, fields)
			}
			got = got[:cap(got)]
			for i := range got {
				got[i] ^= 255
			}
			if !bytes.Equal(all, text(n+64)) {
				t.Errorf("%d: the result shares memory with the argument", n)
			}
			for i := range all {
				all[i] ^= 255
			}
			if n > 0 && got[0] != all[0] {
				t.Errorf("%d: the argument shares memory with the result", n)
			}
			copy(all, text(n+64))
		}
	}
}

// P6.1: many numbers.
func TestAppendMany(t *testing.T) {
	l := make([]Field, 1<<16)
	var want []byte
	random := rand.New(rand.NewSource(1))
	for i := range l {
		size := 1 + i%8
		l[i] = Field{random.Uint64() >> (64 - 8*size), size}
		b, _ := number(l[i].Value, size)
		want = append(want, b...)
	}
	if got, ok := Append(nil, l...); !ok || !bytes.Equal(got, want) {
		t.Error(ok, len(got))
	}
	l[len(l)-1] = Field{1 << 8, 1}
	if got, ok := Append(nil, l...); ok || len(got) != 0 {
		t.Error(ok, len(got))
	}
}

// P6.2: a new reader is at the offset 0 and has no error; it has a copy of the bytes up to their length.
func TestNew(t *testing.T) {
	for n := range 20 {
		all := text(n + 8)
		r := New(all[:n])
		if r.At() != 0 || r.Rest() != n || r.Fault() != none {
			t.Error(n, r.At(), r.Rest(), r.Fault())
		}
		clear(all)
		if got := r.Bytes(n); !bytes.Equal(got, text(n)) || r.At() != n || r.Rest() != 0 || r.Fault() != none {
			t.Error(n, got, r.At(), r.Rest(), r.Fault())
		}
		if r.Uint(1) != 0 || r.Fault() != fault(api.ErrShort, n) {
			t.Error(n, r.Fault())
		}
	}
}

// P6.2: Uint and Bytes for each number of bytes, each offset, and each size or number of bytes to read.
func TestUintAndBytes(t *testing.T) {
	for _, method := range []string{"Uint", "Bytes"} {
		for n := range 18 {
			for at := range n + 1 {
				for _, count := range edges {
					r, m := New(text(n)), &model{all: text(n)}
					_ = same(t, r, m, call{method: "Bytes", n: at}) && same(t, r, m, call{method: method, n: count})
				}
			}
		}
	}
}

// P6.2: numbers that are written out; the most significant byte is the first one.
func TestUintExamples(t *testing.T) {
	r := New([]byte{0, 1, 2, 255, 128, 0, 0, 0, 0, 0, 0, 1, 255, 255, 255, 255, 255, 255, 255, 255, 9})
	for i, c := range []struct {
		size int
		want uint64
	}{{3, 258}, {1, 255}, {8, 1<<63 + 1}, {8, math.MaxUint64}, {1, 9}} {
		if got := r.Uint(c.size); got != c.want {
			t.Error(i, got)
		}
	}
	if r.Rest() != 0 || r.Fault() != none {
		t.Error(r.Rest(), r.Fault())
	}
}

// P6.2: the errors of Uint and Bytes, written out. A size that is not permitted is never too great for the bytes that are left.
func TestReadErrors(t *testing.T) {
	for i, c := range []struct {
		read func(r *Reader) bool
		want api.Fault
	}{
		{func(r *Reader) bool { return r.Uint(0) == 0 }, fault(api.ErrRange, 2)},
		{func(r *Reader) bool { return r.Uint(-1) == 0 }, fault(api.ErrRange, 2)},
		{func(r *Reader) bool { return r.Uint(9) == 0 }, fault(api.ErrRange, 2)},
		{func(r *Reader) bool { return r.Uint(math.MaxInt) == 0 }, fault(api.ErrRange, 2)},
		{func(r *Reader) bool { return r.Uint(4) == 0 }, fault(api.ErrShort, 5)},
		{func(r *Reader) bool { return r.Uint(8) == 0 }, fault(api.ErrShort, 5)},
		{func(r *Reader) bool { return r.Length() == 0 }, fault(api.ErrShort, 5)},
		{func(r *Reader) bool { return len(r.Bytes(-1)) == 0 }, fault(api.ErrRange, 2)},
		{func(r *Reader) bool { return len(r.Bytes(math.MinInt)) == 0 }, fault(api.ErrRange, 2)},
		{func(r *Reader) bool { return len(r.Bytes(4)) == 0 }, fault(api.ErrShort, 5)},
		{func(r *Reader) bool { return len(r.Bytes(math.MaxInt)) == 0 }, fault(api.ErrShort, 5)},
		{func(r *Reader) bool { return r.Uint(3) == 0x0f161d }, none},
		{func(r *Reader) bool { return bytes.Equal(r.Bytes(3), []byte{0x0f, 0x16, 0x1d}) }, none},
		{func(r *Reader) bool { return len(r.Bytes(0)) == 0 && r.At() == 2 }, none},
	} {
		r := New(text(5))
		r.Bytes(2)
		if !c.read(r) || r.Fault() != c.want || c.want != none && (r.At() != 2 || r.Rest() != 3) {
			t.Error(i, r.Fault(), r.At(), r.Rest())
		}
	}
}

// P6.3: Length for each number around a power of two, at different offsets and with bytes after it.
func TestLength(t *testing.T) {
	for _, v := range append(values(), api.MaxLen-1, api.MaxLen, api.MaxLen+1, api.MaxLen+2) {
		for _, before := range []int{0, 1, 9} {
			for after := range 3 {
				b, _ := number(v, 8)
				r := New(slices.Concat(text(before), b, text(after)))
				r.Bytes(before)
				want, wantFault := int(v), none
				if v > api.MaxLen {
					want, wantFault = 0, fault(api.ErrRange, before)
				}
				if got := r.Length(); got != want || r.At() != before+8 || r.Rest() != after || r.Fault() != wantFault {
					t.Error(v, before, got, r.At(), r.Rest(), r.Fault())
				}
			}
		}
	}
}

// P6.3: fewer than 8 bytes are not a length, whatever they are.
func TestLengthShort(t *testing.T) {
	for _, first := range []byte{0, 0x3f, 0x40, 255} {
		for left := range 8 {
			for before := range 3 {
				r := New(slices.Concat(text(before), bytes.Repeat([]byte{first}, left)))
				r.Bytes(before)
				if got := r.Length(); got != 0 || r.At() != before || r.Rest() != left || r.Fault() != fault(api.ErrShort, before+left) {
					t.Error(first, left, before, got, r.At(), r.Fault())
				}
			}
		}
	}
}

// words returns all strings of up to n bytes that are 0 or 255.
func words(n int) [][]byte {
	l := [][]byte{{}}
	for from := 0; n > 0; n-- {
		to := len(l)
		for _, w := range l[from:to] {
			l = append(l, append(slices.Clone(w), 0), append(slices.Clone(w), 255))
		}
		from = to
	}
	return l
}

// P6.4: Expect for all short bytes, at each offset and with each code.
func TestExpectOfSmall(t *testing.T) {
	for _, all := range words(4) {
		for _, b := range words(5) {
			for at := range len(all) + 1 {
				for _, code := range append([]api.Errno{api.OK}, codes...) {
					r, m := New(all), &model{all: all}
					same(t, r, m, call{method: "Bytes", n: at})
					same(t, r, m, call{method: "Expect", b: b, code: code})
				}
			}
		}
	}
}

// P6.4: the three results of Expect, written out.
func TestExpectExamples(t *testing.T) {
	for i, c := range []struct {
		b         string
		want      bool
		wantAt    int
		wantFault api.Fault
	}{
		{"", true, 2, none},
		{"c", true, 3, none},
		{"cd", true, 4, none},
		{"cde", true, 5, none},
		{"cdef", false, 2, fault(api.ErrShort, 5)},
		{"cdefghij", false, 2, fault(api.ErrShort, 5)},
		{"cdxf", false, 2, fault(api.ErrMagic, 2)},
		{"xdef", false, 2, fault(api.ErrMagic, 2)},
		{"d", false, 2, fault(api.ErrMagic, 2)},
		{"cdx", false, 2, fault(api.ErrMagic, 2)},
		{"xdefghij", false, 2, fault(api.ErrMagic, 2)},
		{"abcde", false, 2, fault(api.ErrMagic, 2)},
	} {
		r := New([]byte("abcde"))
		r.Bytes(2)
		if got := r.Expect([]byte(c.b), api.ErrMagic); got != c.want || r.At() != c.wantAt || r.Fault() != c.wantFault {
			t.Error(i, got, r.At(), r.Fault())
		}
	}
	r := New([]byte("abcde"))
	r.Bytes(5)
	if !r.Expect(nil, api.ErrMagic) || r.Fault() != none {
		t.Error("no bytes at the end", r.Fault())
	}
	if r.Expect([]byte("x"), api.ErrMagic) || r.Fault() != fault(api.ErrShort, 5) {
		t.Error("a byte at the end", r.Fault())
	}
}

// P6.4: if the code is api.OK, other bytes are rejected, but no error is recorded, so reading goes on.
func TestExpectCodeOK(t *testing.T) {
	r := New([]byte("abc"))
	r.Bytes(1)
	if r.Expect([]byte("x"), api.OK) || r.Fault() != none || r.At() != 1 {
		t.Error(r.Fault(), r.At())
	}
	if !r.Expect([]byte("bc"), api.OK) || r.Fault() != none || r.At() != 3 {
		t.Error(r.Fault(), r.At())
	}
	if r.Expect([]byte("x"), api.OK) || r.Fault() != fault(api.ErrShort, 3) {
		t.Error(r.Fault())
	}
}

// P6.5: Fail records the first error with any code but api.OK and any offset, and nothing else changes.
func TestFail(t *testing.T) {
	for _, code := range codes {
		for _, at := range edges {
			r := New(text(5))
			r.Bytes(2)
			r.Fail(api.OK, at)
			if r.Fault() != none || r.Uint(1) != uint64(text(5)[2]) {
				t.Error(code, at, r.Fault())
			}
			r.Fail(code, at)
			for _, next := range append([]api.Errno{api.OK}, codes...) {
				r.Fail(next, 1)
			}
			if r.Fault() != fault(code, at) || r.At() != 3 || r.Rest() != 2 {
				t.Error(code, at, r.Fault(), r.At(), r.Rest())
			}
		}
	}
}

// P6.5: Fault does not change the reader, and what it returns is a value.
func TestFault(t *testing.T) {
	r := New(text(3))
	for range 2 {
		if r.Fault() != none {
			t.Error(r.Fault())
		}
	}
	r.Uint(4)
	f := r.Fault()
	f.At = 100
	if r.Fault() != fault(api.ErrShort, 3) {
		t.Error(r.Fault())
	}
}

// After each kind of error, the reading methods return zero values and change nothing.
func TestAfterAnError(t *testing.T) {
	before, _ := Append(text(3), Field{math.MaxUint64, 8})
	all := append(before, make([]byte, 20)...)
	wrong := []call{
		{method: "Uint", n: 0}, {method: "Uint", n: 9}, {method: "Bytes", n: -1}, {method: "Bytes", n: 1000}, {method: "Length"},
		{method: "Expect", b: []byte{1}, code: 9}, {method: "Expect", b: append(slices.Clone(all[3:]), 1), code: 9},
		{method: "Fail", n: -5, code: -3}, {method: "Fail", n: 0, code: 1},
	}
	for _, first := range wrong {
		for _, next := range slices.Concat(readings(), wrong) {
			r, m := New(all), &model{all: all}
			same(t, r, m, call{method: "Bytes", n: 3})
			same(t, r, m, first)
			at, rest, f := r.At(), r.Rest(), r.Fault()
			if f == none || f.Code == api.OK {
				t.Error(first, f)
			}
			same(t, r, m, next)
			if r.Uint(1) != 0 || r.Length() != 0 || len(r.Bytes(1)) != 0 || r.Expect(nil, 1) || r.Expect(all[at:at+1], 1) {
				t.Error(first, next, "a result is not zero")
			}
			if r.At() != at || r.Rest() != rest || r.Fault() != f {
				t.Error(first, next, r.At(), r.Rest(), r.Fault())
			}
		}
	}
}

// P6.2 to P6.5: all sequences of three calls of a list, for some bytes.
func TestSequences(t *testing.T) {
	l := append(readings(), []call{
		{method: "Uint", n: 0}, {method: "Uint", n: 2}, {method: "Uint", n: 8}, {method: "Uint", n: 9}, {method: "Bytes", n: -1},
		{method: "Bytes", n: 3}, {method: "Expect", b: []byte{0, 0}, code: 9}, {method: "Expect", b: []byte{64}, code: 10},
		{method: "Fail", n: 3}, {method: "Fail", n: 4, code: 11},
	}...)
	for _, all := range [][]byte{nil, {0}, {64}, {0, 0, 0}, make([]byte, 10), append([]byte{0, 0}, bytes.Repeat([]byte{64}, 16)...)} {
		for _, first := range l {
			for _, second := range l {
				for _, third := range l {
					r, m := New(all), &model{all: all}
					_ = same(t, r, m, first) && same(t, r, m, second) && same(t, r, m, third)
				}
			}
		}
	}
}

// randomCall returns a call that succeeds in most cases.
func randomCall(random *rand.Rand, rest []byte) call {
	switch random.Intn(12) {
	case 0, 1, 2:
		return call{method: "Uint", n: 1 + random.Intn(8)}
	case 3, 4:
		return call{method: "Length"}
	case 5, 6:
		return call{method: "Bytes", n: random.Intn(12)}
	case 7, 8, 9:
		b := slices.Clone(rest[:random.Intn(len(rest)+1)])
		if len(b) > 0 && random.Intn(8) == 0 {
			b[random.Intn(len(b))]++
		}
		return call{method: "Expect", b: b, code: codes[random.Intn(len(codes))]}
	case 10:
		return call{method: "Fail", n: random.Intn(20), code: api.Errno(random.Intn(2) * random.Intn(2))}
	}
	edge := edges[random.Intn(len(edges))]
	return call{method: []string{"Uint", "Bytes"}[random.Intn(2)], n: edge}
}

// P6.2 to P6.5: random calls.
func TestRandomCalls(t *testing.T) {
	random := rand.New(rand.NewSource(6))
	for range 20000 {
		all := make([]byte, random.Intn(100))
		for i := range all {
			all[i] = byte(random.Intn(256))
			if random.Intn(3) > 0 {
				all[i] &= 63
			}
		}
		r, m := New(all), &model{all: all}
		for range 12 {
			if !same(t, r, m, randomCall(random, all[m.at:])) {
				return
			}
		}
	}
}

// P6.6: the fields that Append has written are read as they were, and nothing is left.
func TestReadWhatWasWritten(t *testing.T) {
	random := rand.New(rand.NewSource(66))
	for range 5000 {
		before := text(random.Intn(5))
		l := make([]Field, random.Intn(20))
		for i := range l {
			l[i].Size = 1 + random.Intn(8)
			l[i].Value = random.Uint64() >> (64 - 8*l[i].Size + random.Intn(8*l[i].Size))
		}
		b, ok := Append(before, l...)
		r := New(b)
		if !ok || !r.Expect(before, api.ErrMagic) {
			t.Fatal(before, l, b, ok)
		}
		for _, f := range l {
			if got := r.Uint(f.Size); got != f.Value {
				t.Fatal(l, f, got)
			}
		}
		if r.Rest() != 0 || r.Fault() != none {
			t.Fatal(l, r.Rest(), r.Fault())
		}
	}
}

// P6.6: the same for lengths.
func TestReadLengths(t *testing.T) {
	var l []Field
	for shift := range 63 {
		l = append(l, Field{1<<shift - 1, 8})
	}
	b, _ := Append(nil, l...)
	r := New(b)
	for _, f := range l {
		if got := r.Length(); got != int(f.Value) {
			t.Error(f, got)
		}
	}
	if r.Rest() != 0 || r.Fault() != none {
		t.Error(r.Rest(), r.Fault())
	}
}

// On a nil Reader, Fault returns api.ErrNil at 0, Fail has no effect, and the other methods return zero values.
func TestNilReader(t *testing.T) {
	var r *Reader
	for range 2 {
		for _, n := range edges {
			if r.Uint(n) != 0 || r.Length() != 0 || len(r.Bytes(n)) != 0 || r.At() != 0 || r.Rest() != 0 {
				t.Error(n, "a result is not zero")
			}
			r.Fail(api.ErrKind, n)
			r.Fail(api.OK, n)
			if r.Fault() != fault(api.ErrNil, 0) {
				t.Error(n, r.Fault())
			}
		}
		if r.Expect(nil, api.ErrMagic) || r.Expect([]byte{}, api.OK) || r.Expect([]byte{1}, api.ErrMagic) {
			t.Error("Expect of a nil Reader")
		}
	}
}

// P2: readers of the same bytes do not know of each other.
func TestReadersAreIndependent(t *testing.T) {
	all := text(9)
	a, b := New(all), New(all)
	a.Uint(3)
	if b.At() != 0 || b.Rest() != 9 {
		t.Error(b.At(), b.Rest())
	}
	a.Fail(api.ErrKind, 1)
	if b.Fault() != none || b.Uint(1) != uint64(all[0]) || a.Fault() != fault(api.ErrKind, 1) || a.At() != 3 {
		t.Error(a.Fault(), b.Fault())
	}
	c := New(all)
	if c.Fault() != none || c.At() != 0 || !c.Expect(all, api.ErrMagic) {
		t.Error(c.Fault())
	}
}

// Rule 4: what Bytes returns is memory of its own, up to its capacity.
func TestResultsShareNoMemory(t *testing.T) {
	for n := range 9 {
		all := text(20)
		r := New(all)
		first := r.Bytes(n)
		second := r.Bytes(n)
		first = first[:cap(first)]
		clear(first)
		if !bytes.Equal(all, text(20)) || !bytes.Equal(second, all[n:2*n]) || !r.Expect(text(20)[2*n:], api.ErrMagic) {
			t.Error(n, "the first result shares memory")
		}
		if !bytes.Equal(r.all, text(20)) {
			t.Error(n, "a result shares memory with the reader")
		}
	}
}

// Rule 4: the arguments of New and Expect are not changed, nothing is read beyond their lengths, and none is kept.
func TestArguments(t *testing.T) {
	all, b := text(20), text(20)
	r := New(all[:10])
	if !r.Expect(b[:4], api.ErrMagic) || r.At() != 4 || r.Rest() != 6 {
		t.Error(r.At(), r.Rest(), r.Fault())
	}
	r.Bytes(2)
	r.Uint(1)
	r.Length()
	if !bytes.Equal(all, text(20)) || !bytes.Equal(b, text(20)) {
		t.Error("an argument is changed")
	}
	r = New(all[:10])
	if r.Expect(b[:11], api.ErrMagic) || r.Fault() != fault(api.ErrShort, 10) {
		t.Error(r.Fault())
	}
	r = New(all)
	r.Expect(b[:4], api.ErrMagic)
	clear(all)
	clear(b)
	if got := r.Bytes(16); !bytes.Equal(got, text(20)[4:]) {
		t.Error(got)
	}
}

// P1: no arguments make a function panic.
func TestAllArguments(t *testing.T) {
	for _, b := range [][]byte{nil, {}, {1}, text(8), text(100)} {
		for _, n := range edges {
			for _, m := range edges {
				r := New(b)
				Append(b, Field{uint64(m), n}, Field{1, m})
				r.Uint(n)
				r.Uint(m)
				r = New(b)
				r.Bytes(n)
				r.Bytes(m)
				r = New(b)
				r.Length()
				r.Fail(api.Errno(m), n)
				r.Expect(b, api.Errno(m))
				r.At()
				r.Rest()
				r.Fault()
			}
		}
	}
}

// Rule 6: the functions may be called concurrently, also with the same arguments.
func TestConcurrentCalls(t *testing.T) {
	all, fields := text(64), []Field{{258, 3}, {math.MaxUint64, 8}}
	var w sync.WaitGroup
	for range 8 {
		w.Go(func() {
			for range 200 {
				b, ok := Append(all, fields...)
				r := New(b)
				if !ok || !r.Expect(all, api.ErrMagic) || r.Uint(3) != 258 || r.Length() != 0 || r.Fault() != fault(api.ErrRange, 67) {
					t.Error(ok, r.Fault())
				}
			}
		})
	}
	w.Wait()
}
