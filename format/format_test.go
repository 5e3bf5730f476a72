package format

import (
	"bytes"
	"crypto/sha256"
	"encoding/binary"
	"math"
	"math/rand"
	"slices"
	"sync"
	"testing"

	"graft/api"
	"graft/delta"
)

const top = api.MaxLen

// edges are ints at which a number cannot be encoded, or at which more of its bytes are in use.
var edges = []int{
	math.MinInt, math.MinInt + 1, -top - 1, -top, -256, -1, 0, 1, 2, 3, 255, 256, 257, 0x0102030405060708,
	1<<31 - 1, 1 << 32, top / 2, top - 1, top, top + 1, math.MaxInt - 1, math.MaxInt,
}

// kinds are kinds of commands; those which are equal modulo 256 have the same last byte.
var kinds = []int{math.MinInt, -255, -2, -1, 0, 1, 2, 3, 4, 255, 256, 257, 258, 1<<32 + 1, 1<<32 + 2, math.MaxInt}

// none is the Fault of a delta without an error.
var none = api.Fault{}

// fault returns a Fault.
func fault(code api.Errno, at int) api.Fault { return api.Fault{Code: code, At: at} }

// text returns n bytes that are all different if there are at most 256.
func text(n int) []byte {
	b := make([]byte, n)
	for i := range b {
		b[i] = byte(7*i + 1)
	}
	return b
}

// lit returns a Literal.
func lit(to int, data ...byte) api.Command { return api.Command{Kind: 2, To: to, Data: data} }

// cp returns a Copy of n bytes.
func cp(to, from, n int) api.Command { return api.Command{Kind: 1, To: to, From: from, Len: n} }

// of returns a delta with some lengths, and digests whose bytes are all different.
func of(oldLen, newLen int, l ...api.Command) api.Delta {
	return api.Delta{OldLen: oldLen, NewLen: newLen, OldHash: [32]byte(text(64)[:32]), NewHash: [32]byte(text(64)[32:]), Commands: l}
}

// identical compares all fields of deltas.
func identical(a, b api.Delta) bool {
	return a.OldLen == b.OldLen && a.NewLen == b.NewLen && a.OldHash == b.OldHash && a.NewHash == b.NewHash &&
		slices.EqualFunc(a.Commands, b.Commands, func(a, b api.Command) bool {
			return a.Kind == b.Kind && a.To == b.To && a.From == b.From && a.Len == b.Len && string(a.Data) == string(b.Data)
		})
}

// blank reports whether a delta is zero.
func blank(d api.Delta) bool { return identical(d, api.Delta{}) }

// refusal returns why a delta cannot be encoded, by the definition.
func refusal(d api.Delta) api.Errno {
	for _, c := range d.Commands {
		if c.Kind != 1 && c.Kind != 2 {
			return api.ErrKind
		}
	}
	numbers := []int{d.OldLen, d.NewLen}
	for _, c := range d.Commands {
		numbers = append(numbers, c.To, c.From, c.Len)
		if c.Kind == 1 && len(c.Data) != 0 || c.Kind == 2 && (c.From != 0 || c.Len != 0) {
			return api.ErrRange
		}
	}
	if slices.Min(numbers) < 0 || slices.Max(numbers) > top {
		return api.ErrRange
	}
	return api.OK
}

// encoded returns the encoding of a delta, by the definition.
func encoded(d api.Delta) []byte {
	number := binary.BigEndian.AppendUint64
	b := append([]byte("GRFT"), 1)
	b = number(number(b, uint64(d.OldLen)), uint64(d.NewLen))
	b = append(append(b, d.OldHash[:]...), d.NewHash[:]...)
	b = binary.BigEndian.AppendUint32(b, uint32(len(d.Commands)))
	for _, c := range d.Commands {
		b = number(append(b, byte(c.Kind)), uint64(c.To))
		if c.Kind == 1 {
			b = number(number(b, uint64(c.From)), uint64(c.Len))
		} else {
			b = append(number(b, uint64(len(c.Data))), c.Data...)
		}
	}
	return b
}

// parser reads an encoding by the definition. It panics with the first fault.
type parser struct {
	all []byte
	at  int
}

func (p *parser) pass(n int) []byte {
	if n > len(p.all)-p.at {
		panic(fault(api.ErrShort, len(p.all)))
	}
	p.at += n
	return p.all[p.at-n : p.at]
}

func (p *parser) length() int {
	before := p.at
	n := binary.BigEndian.Uint64(p.pass(8))
	if n >= 1<<62 {
		panic(fault(api.ErrRange, before))
	}
	return int(n)
}

func (p *parser) magic() {
	for i, c := range []byte("GRFT") {
		if i == len(p.all) {
			panic(fault(api.ErrShort, i))
		}
		if p.all[i] != c {
			panic(fault(api.ErrMagic, 0))
		}
	}
	p.at = 4
}

func (p *parser) command() api.Command {
	before := p.at
	switch p.pass(1)[0] {
	case 1:
		return cp(p.length(), p.length(), p.length())
	case 2:
		return lit(p.length(), p.pass(p.length())...)
	}
	panic(fault(api.ErrKind, before))
}

func (p *parser) delta() api.Delta {
	var d api.Delta
	p.magic()
	if p.pass(1)[0] != 1 {
		panic(fault(api.ErrVersion, 4))
	}
	d.OldLen, d.NewLen = p.length(), p.length()
	d.OldHash, d.NewHash = [32]byte(p.pass(32)), [32]byte(p.pass(32))
	for range binary.BigEndian.Uint32(p.pass(4)) {
		d.Commands = append(d.Commands, p.command())
	}
	if p.at < len(p.all) {
		panic(fault(api.ErrExtra, p.at))
	}
	return d
}

// parsed returns the result of Decode by the definition.
func parsed(b []byte) (d api.Delta, f api.Fault) {
	defer func() {
		if e := recover(); e != nil {
			d, f = api.Delta{}, e.(api.Fault)
		}
	}()
	p := parser{all: b}
	return p.delta(), none
}

// checkEncode compares Size and Encode with the definition.
func checkEncode(t *testing.T, d api.Delta) {
	t.Helper()
	b, code := Encode(d)
	if want := refusal(d); code != want {
		t.Errorf("%v: the error is %d, not %d", d, code, want)
	}
	want := []byte(nil)
	if code == api.OK {
		want = encoded(d)
	}
	if !bytes.Equal(b, want) {
		t.Errorf("%v: %v, not %v", d, b, want)
	}
	if n := Size(d); n != len(want) {
		t.Errorf("%v: the size is %d, not %d", d, n, len(want))
	}
}

// checkDecode compares Decode with the definition, and Load with delta.Check.
func checkDecode(t *testing.T, b []byte) {
	t.Helper()
	want, f := parsed(b)
	d, g := Decode(b)
	if g != f || !identical(d, want) {
		t.Errorf("%v: %v, %v, not %v, %v", b, d, g, want, f)
	}
	if f == none {
		if again, code := Encode(d); code != api.OK || !bytes.Equal(again, b) {
			t.Errorf("%v is accepted, but its delta has the encoding %v, %v", b, again, code)
		}
		f = delta.Check(want)
	}
	if f != none {
		want = api.Delta{}
	}
	if d, g := Load(b); g != f || !identical(d, want) {
		t.Errorf("%v: Load returns %v, %v, not %v, %v", b, d, g, want, f)
	}
}

// commands returns n commands of any kind, which can be encoded.
func commands(r *rand.Rand, n int) []api.Command {
	number := func() int { return r.Intn(top+1) >> r.Intn(62) }
	l := make([]api.Command, n)
	for i := range l {
		if r.Intn(2) == 0 {
			l[i] = cp(number(), number(), number())
		} else {
			l[i] = lit(number(), text(r.Intn(20))...)
		}
	}
	return l
}

// deltas returns deltas that can be encoded; some of them are valid.
func deltas(count int) []api.Delta {
	r := rand.New(rand.NewSource(1))
	l := []api.Delta{{}, of(0, 0), of(top, top), of(3, 5, cp(2, 0, 3), lit(0, 'a', 'b')), of(3, 5, lit(0), cp(0, 0, 0), lit(0))}
	for range count {
		d := of(r.Intn(1000), r.Intn(1000), commands(r, r.Intn(6))...)
		r.Read(d.OldHash[:])
		r.Read(d.NewHash[:])
		l = append(l, d)
	}
	return l
}

// P7.1: the example, and an encoding that is written out.
func TestEncodeExamples(t *testing.T) {
	zero := append([]byte("GRFT\x01"), make([]byte, 84)...)
	if b, code := Encode(api.Delta{}); !bytes.Equal(b, zero) || code != api.OK || Size(api.Delta{}) != 89 {
		t.Error(b, code)
	}
	d := of(0x0102030405060708, 0x1112131415161718, cp(0x2122232425262728, 0x3132333435363738, 0x0142434445464748), lit(0x0152535455565758, []byte("abc")...))
	want := slices.Concat([]byte("GRFT\x01\x01\x02\x03\x04\x05\x06\x07\x08\x11\x12\x13\x14\x15\x16\x17\x18"), text(64), []byte{0, 0, 0, 2},
		[]byte("\x01\x21\x22\x23\x24\x25\x26\x27\x28\x31\x32\x33\x34\x35\x36\x37\x38\x01\x42\x43\x44\x45\x46\x47\x48"),
		[]byte("\x02\x01\x52\x53\x54\x55\x56\x57\x58\x00\x00\x00\x00\x00\x00\x00\x03abc"))
	if b, code := Encode(d); !bytes.Equal(b, want) || code != api.OK || Size(d) != 134 {
		t.Error(b, code, Size(d))
	}
}

// P7.1: all edges in all numbers of a delta and of its commands, with each kind.
func TestEncodeEdges(t *testing.T) {
	for _, i := range edges {
		for _, j := range edges {
			checkEncode(t, of(i, j))
			checkEncode(t, of(1, i, lit(j, 'a')))
			for _, k := range edges {
				checkEncode(t, of(1, 2, cp(i, j, k)))
				checkEncode(t, of(1, 2, api.Command{Kind: 2, To: i, From: j, Len: k, Data: []byte("ab")}))
			}
		}
	}
	for _, kind := range kinds {
		for _, n := range edges {
			for _, data := range [][]byte{nil, {}, {0}, text(300)} {
				checkEncode(t, of(1, 2, api.Command{Kind: kind, Data: data}))
				checkEncode(t, of(1, 2, api.Command{Kind: kind, To: n, Data: data}))
				checkEncode(t, of(1, 2, api.Command{Kind: kind, From: n, Data: data}))
				checkEncode(t, of(1, 2, api.Command{Kind: kind, Len: n, Data: data}))
				checkEncode(t, of(n, 2, api.Command{Kind: kind, Data: data}))
			}
		}
	}
}

// P7.1: a command in any place makes a delta impossible to encode, and a wrong Kind precedes everything else.
func TestEncodeErrors(t *testing.T) {
	good := []api.Command{lit(0), cp(5, 6, 7), lit(8, 'a'), cp(0, 0, 0)}
	wrongKind := []api.Command{{}, {Kind: 3}, {Kind: -1, To: -1}, {Kind: 257, From: 1, Len: 2}}
	wrongRange := []api.Command{cp(-1, 0, 1), cp(0, top+1, 1), cp(0, 0, -1), lit(-1, 'a'), {Kind: 1, Data: []byte{0}}, {Kind: 2, Len: 1}, {Kind: 2, From: -1}}
	expect := func(d api.Delta, want api.Errno) {
		t.Helper()
		if b, code := Encode(d); code != want || len(b) != 0 || Size(d) != 0 {
			t.Errorf("%v: %v, %d, size %d", d, b, code, Size(d))
		}
	}
	for i := range 5 {
		for _, r := range wrongRange {
			ranged := slices.Insert(slices.Clone(good), i, r)
			expect(of(1, 2, ranged...), api.ErrRange)
			for _, k := range wrongKind {
				expect(of(1, 2, slices.Insert(slices.Clone(good), i, k)...), api.ErrKind)
				expect(of(-1, top+1, slices.Insert(slices.Clone(good), i, k)...), api.ErrKind)
				for j := range 6 {
					expect(of(1, 2, slices.Insert(slices.Clone(ranged), j, k)...), api.ErrKind)
				}
			}
		}
	}
	for _, n := range []int{math.MinInt, -1, top + 1, math.MaxInt} {
		expect(of(n, 0), api.ErrRange)
		expect(of(0, n, good...), api.ErrRange)
		expect(of(n, 0, api.Command{}), api.ErrKind)
	}
}

// P7.1: any commands, and more of them than a byte can count.
func TestEncodeMany(t *testing.T) {
	for _, d := range deltas(2000) {
		checkEncode(t, d)
	}
	r := rand.New(rand.NewSource(2))
	for _, n := range []int{255, 256, 257, 1<<16 - 1, 1 << 16, 1<<16 + 1} {
		d := of(1, 2, commands(r, n)...)
		checkEncode(t, d)
		b, _ := Encode(d)
		checkDecode(t, b)
	}
	d := of(1, 2, lit(3, text(1<<20)...), lit(4, text(256)...))
	checkEncode(t, d)
	b, _ := Encode(d)
	checkDecode(t, b)
}

// P7.2: the chapter's example, and faults that are written out.
func TestDecodeExamples(t *testing.T) {
	head := encoded(of(5, 6))[:85]
	with := func(count byte, parts ...string) []byte {
		b := append(slices.Clone(head), 0, 0, 0, count)
		for _, p := range parts {
			b = append(b, p...)
		}
		return b
	}
	const (
		one    = "\x00\x00\x00\x00\x00\x00\x00\x01"
		most   = "\x3f\xff\xff\xff\xff\xff\xff\xff"
		beyond = "\x40\x00\x00\x00\x00\x00\x00\x00"
	)
	for i, c := range []struct {
		b    []byte
		want api.Fault
	}{
		{nil, fault(api.ErrShort, 0)},
		{[]byte("GRF"), fault(api.ErrShort, 3)},
		{[]byte("GRFT"), fault(api.ErrShort, 4)},
		{[]byte("g"), fault(api.ErrMagic, 0)},
		{[]byte("GRf"), fault(api.ErrMagic, 0)},
		{[]byte("GRFt\x01"), fault(api.ErrMagic, 0)},
		{[]byte("GRFT\x00"), fault(api.ErrVersion, 4)},
		{[]byte("GRFT\x02"), fault(api.ErrVersion, 4)},
		{[]byte("GRFT\x01"), fault(api.ErrShort, 5)},
		{[]byte("GRFT\x01" + beyond[:7]), fault(api.ErrShort, 12)},
		{[]byte("GRFT\x01" + beyond), fault(api.ErrRange, 5)},
		{[]byte("GRFT\x01" + most + beyond), fault(api.ErrRange, 13)},
		{[]byte("GRFT\x01" + most + most), fault(api.ErrShort, 21)},
		{head, fault(api.ErrShort, 85)},
		{with(0), none},
		{with(0, "x"), fault(api.ErrExtra, 89)},
		{with(1), fault(api.ErrShort, 89)},
		{with(1, "\x00"), fault(api.ErrKind, 89)},
		{with(1, "\x03", beyond), fault(api.ErrKind, 89)},
		{with(2, "\x02", one, one, "a", "\xff"), fault(api.ErrKind, 107)},
		{with(1, "\x01", beyond), fault(api.ErrRange, 90)},
		{with(1, "\x01", most, beyond), fault(api.ErrRange, 98)},
		{with(1, "\x01", one, one, beyond), fault(api.ErrRange, 106)},
		{with(1, "\x01", most, most, most), none},
		{with(1, "\x02", beyond), fault(api.ErrRange, 90)},
		{with(1, "\x02", one, beyond), fault(api.ErrRange, 98)},
		{with(1, "\x02", one, most, "abc"), fault(api.ErrShort, 109)},
		{with(1, "\x02", one, one), fault(api.ErrShort, 106)},
		{with(1, "\x02", one, one, "a"), none},
		{with(1, "\x02", one, one, "ab"), fault(api.ErrExtra, 107)},
		{with(255, "\x02", one, one, "a"), fault(api.ErrShort, 107)},
	} {
		if d, f := Decode(c.b); f != c.want || f != none && !blank(d) {
			t.Errorf("%d: %v, %v", i, d, f)
		}
		checkDecode(t, c.b)
	}
	if d, f := Decode(with(2, "\x01", one, most, one, "\x02", most, one, "a")); f != none || !identical(d, of(5, 6, cp(1, top, 1), lit(top, 'a'))) {
		t.Error(d, f)
	}
}

// P7.2, P7.3: each byte of an encoding with each value, at each length.
func TestDecodeEachByte(t *testing.T) {
	b := encoded(of(3, 5, cp(2, 0, 3), lit(0, 'a', 'b')))
	for i := range b {
		for v := range 256 {
			x := slices.Clone(b)
			x[i] = byte(v)
			checkDecode(t, x)
			checkDecode(t, append(x, 7))
			checkDecode(t, x[:i+1])
			checkDecode(t, x[:min(i+9, len(x))])
		}
	}
}

// P7.2: the beginnings of wrong beginnings.
func TestDecodeBeginnings(t *testing.T) {
	for _, s := range []string{"GRFT", "GRFt", "GRfT", "GrFT", "gRFT", "GRF\x00", "\x00RFT", "GGRFT", "TFRG", "GRFT\x01", "GRFT\x00", "GRFT\x02", "GRFT\xff"} {
		for n := range len(s) + 1 {
			checkDecode(t, []byte(s[:n]))
			checkDecode(t, append([]byte(s[:n]), make([]byte, 100)...))
		}
	}
}

// P7.2: encodings with random changes, of which the first one that is met decides.
func TestDecodeChanged(t *testing.T) {
	r := rand.New(rand.NewSource(3))
	values := []byte{0, 1, 2, 3, 0x3f, 0x40, 0x80, 0xff}
	for _, d := range deltas(500) {
		for range 20 {
			b := encoded(d)
			for range 1 + r.Intn(3) {
				b[r.Intn(len(b))] = values[r.Intn(len(values))]
			}
			switch at := r.Intn(len(b)); r.Intn(4) {
			case 0:
				b = slices.Delete(b, at, min(at+1+r.Intn(9), len(b)))
			case 1:
				b = slices.Insert(b, at, text(1+r.Intn(9))...)
			case 2:
				b = b[:at]
			}
			checkDecode(t, b)
		}
	}
}

// P7.2: the number of commands that is written is the one that is read.
func TestDecodeCount(t *testing.T) {
	for n := range 6 {
		b := encoded(of(1, 2, slices.Repeat([]api.Command{lit(0, 'a'), cp(1, 2, 3)}, n)...))
		for count := range 16 {
			b[88] = byte(count)
			checkDecode(t, b)
		}
		for _, i := range []int{85, 86, 87} {
			b[i] = 255
			checkDecode(t, b)
		}
	}
}

// P7.3: valid deltas are loaded, and each fault of delta.Check is returned with its index.
func TestLoad(t *testing.T) {
	good := of(3, 5, cp(2, 0, 3), lit(0, 'a', 'b'))
	for i, c := range []struct {
		d    api.Delta
		want api.Fault
	}{
		{api.Delta{}, none},
		{good, none},
		{of(3, 5, lit(0, 'a', 'b'), cp(2, 0, 3)), none},
		{of(2, 5, good.Commands...), fault(api.ErrSource, 0)},
		{of(3, 4, good.Commands...), fault(api.ErrLength, 0)},
		{of(3, 6, good.Commands...), fault(api.ErrGap, 5)},
		{of(3, 5, cp(2, 0, 3), lit(0, 'a', 'b', 'c')), fault(api.ErrOverlap, 1)},
		{of(3, 5, cp(2, 0, 3), lit(0, 'a', 'b'), lit(5)), fault(api.ErrEmpty, 2)},
		{of(3, 5, cp(2, 0, 0)), fault(api.ErrEmpty, 0)},
		{of(3, 5, lit(0, 'a'), cp(top, top, top)), fault(api.ErrRange, 1)},
		{of(3, 5), fault(api.ErrGap, 0)},
	} {
		b, _ := Encode(c.d)
		if d, f := Decode(b); f != none || !identical(d, c.d) {
			t.Errorf("%d: Decode: %v, %v", i, d, f)
		}
		d, f := Load(b)
		if f != c.want || f == none && !identical(d, c.d) || f != none && !blank(d) {
			t.Errorf("%d: %v, %v", i, d, f)
		}
		if d, f := Load(append(b, 0)); f != fault(api.ErrExtra, len(b)) || !blank(d) {
			t.Errorf("%d: with a byte more: %v, %v", i, d, f)
		}
		if d, f := Load(b[:len(b)-1]); f != fault(api.ErrShort, len(b)-1) || !blank(d) {
			t.Errorf("%d: with a byte less: %v, %v", i, d, f)
		}
	}
}

// P7.4: the parts are hashed as one byte string, wherever they are divided.
func TestID(t *testing.T) {
	if got := ID(); got != 0xe3b0c44298fc1c14 {
		t.Errorf("%x", got)
	}
	if got := ID([]byte("abc")); got != 0xba7816bf8f01cfea {
		t.Errorf("%x", got)
	}
	for n := range 300 {
		b := text(n)
		digest := sha256.Sum256(b)
		want := binary.BigEndian.Uint64(digest[:8])
		for _, parts := range [][][]byte{{b}, {nil, b, {}}, {b[:n/2], b[n/2:]}, {b[:n/3], b[n/3 : n/2], nil, b[n/2:]}} {
			if got := ID(parts...); got != want {
				t.Errorf("%d bytes: %x, not %x", n, got, want)
			}
		}
	}
	if ID([]byte("ab"), []byte("c")) == ID([]byte("c"), []byte("ab")) {
		t.Error("the order of the parts does not matter")
	}
}

// P7.5: Decode inverts Encode, and rejects each proper beginning.
func TestInverse(t *testing.T) {
	for _, want := range deltas(300) {
		b, code := Encode(want)
		if d, f := Decode(b); code != api.OK || f != none || !identical(d, want) {
			t.Errorf("%v: %v, %v, %v", want, code, d, f)
		}
		for n := range b {
			if d, f := Decode(b[:n]); f != fault(api.ErrShort, n) || !blank(d) {
				t.Errorf("%d bytes of %v: %v, %v", n, b, d, f)
			}
			if d, f := Load(b[:n]); f != fault(api.ErrShort, n) || !blank(d) {
				t.Errorf("Load of %d bytes of %v: %v, %v", n, b, d, f)
			}
		}
	}
}

// Rule 4: results share no memory with the arguments or with each other.
func TestResultsShareNoMemory(t *testing.T) {
	want := of(3, 5, cp(2, 0, 3), lit(0, 'a', 'b'), lit(7, 'c'), lit(8))
	d := of(3, 5, cp(2, 0, 3), lit(0, 'a', 'b'), lit(7, 'c'), lit(8))
	b, _ := Encode(d)
	again, _ := Encode(d)
	d.Commands[1].Data[0] = 'x'
	if !bytes.Equal(b, encoded(want)) {
		t.Error("an encoding shares memory with its delta")
	}
	for i := range b[:cap(b)] {
		b[:cap(b)][i] ^= 255
	}
	if !bytes.Equal(again, encoded(want)) || string(d.Commands[1].Data) != "xb" {
		t.Error("an encoding shares memory with its delta or with another encoding")
	}
	valid := encoded(of(3, 5, cp(2, 0, 3), lit(0, 'a'), lit(1, 'b')))
	for i, read := range []func([]byte) (api.Delta, api.Fault){Decode, Load} {
		first, _ := read(valid)
		second, _ := read(valid)
		for j := range first.Commands {
			data := first.Commands[j].Data
			for k := range data[:cap(data)] {
				data[:cap(data)][k] = 'x'
			}
			first.Commands[j].To = 99
			if j == 1 && string(first.Commands[2].Data) != "b" {
				t.Error(i, "two commands share memory")
			}
		}
		if !bytes.Equal(valid, encoded(second)) || len(second.Commands) != 3 {
			t.Error(i, "a delta shares memory with its encoding or with another delta", second)
		}
		clone := slices.Clone(valid)
		third, _ := read(clone)
		clear(clone)
		if !identical(third, second) {
			t.Error(i, "a delta changes with its encoding", third)
		}
	}
}

// Rule 4: arguments are not modified, and nothing is read or written beyond their lengths.
func TestArguments(t *testing.T) {
	data := []byte("abcd")
	l := []api.Command{lit(0, 'a'), {Kind: 2, To: 1, Data: data[1:2]}, {}, {Kind: 3}}
	d := of(0, 2, l[:2]...)
	d.Commands = l[:2]
	b, code := Encode(d)
	if code != api.OK || !bytes.Equal(b, encoded(of(0, 2, lit(0, 'a'), lit(1, 'b')))) || Size(d) != len(b) {
		t.Error(b, code)
	}
	long := append(slices.Clone(b), "xyz"...)
	if got, f := Decode(long[:len(b)]); f != none || !identical(got, d) {
		t.Error(got, f)
	}
	if got, f := Load(long[:len(b)]); f != none || !identical(got, d) {
		t.Error(got, f)
	}
	if _, f := Decode(b[:100]); f != fault(api.ErrShort, 100) {
		t.Error(f)
	}
	if !bytes.Equal(long, append(slices.Clone(b), "xyz"...)) || string(data) != "abcd" {
		t.Error("an argument is changed", long, data)
	}
	if l[2].Kind != 0 || l[3].Kind != 3 || l[0].To != 0 || l[1].To != 1 {
		t.Error("the commands are changed", l)
	}
	ID(long[:4], data[:2])
	if !bytes.Equal(long[:len(b)], b) || string(data) != "abcd" || ID(data[:2]) != ID([]byte("ab")) {
		t.Error("ID changes its arguments, or reads beyond them")
	}
}

// P1: nothing panics, and a number of commands that is not there costs nothing.
func TestAllArguments(t *testing.T) {
	for _, kind := range kinds {
		for _, i := range edges {
			for _, j := range edges {
				d := of(i, j, api.Command{Kind: kind, To: j, From: i, Len: j}, cp(i, i, i), lit(j))
				Size(d)
				Encode(d)
			}
		}
	}
	r := rand.New(rand.NewSource(4))
	for n := range 400 {
		b := make([]byte, n)
		r.Read(b)
		checkDecode(t, b)
		copy(b, encoded(api.Delta{}))
		checkDecode(t, b)
		if n > 89 {
			copy(b[85:], []byte{255, 255, 255, 255, byte(1 + n%2)})
			checkDecode(t, b)
		}
	}
}

// Rule 6: the functions may be called concurrently.
func TestConcurrentCalls(t *testing.T) {
	l := deltas(50)
	var all sync.WaitGroup
	for range 4 {
		all.Go(func() {
			for _, d := range l {
				b, code := Encode(d)
				got, f := Decode(b)
				if code != api.OK || f != none || !identical(got, d) || Size(d) != len(b) || ID(b) != ID(encoded(d)) {
					t.Errorf("%v: %v, %v, %v", d, code, got, f)
				}
				Load(b)
			}
		})
	}
	all.Wait()
}
