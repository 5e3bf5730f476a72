package delta

import (
	"math"
	"math/big"
	"math/rand"
	"slices"
	"sync"
	"testing"

	"graft/api"
	"graft/command"
)

const top = api.MaxLen

// edges are ints at which sums and differences overflow, or at which a delta becomes invalid.
var edges = []int{
	math.MinInt, math.MinInt + 1, -top - 1, -top, -7, -1, 0, 1, 2, 3, 7, 1 << 20,
	top / 2, top/2 + 1, top - 3, top - 2, top - 1, top, top + 1, math.MaxInt - 1, math.MaxInt,
}

// none is the Fault of a valid delta.
var none = api.Fault{}

// of returns a delta with some lengths, and digests that are not zero.
func of(oldLen, newLen int, l ...api.Command) api.Delta {
	return api.Delta{OldLen: oldLen, NewLen: newLen, OldHash: [32]byte{1, 31: 2}, NewHash: [32]byte{3, 31: 4}, Commands: l}
}

// text returns n bytes that are all different if there are at most 256.
func text(n int) []byte {
	b := make([]byte, n)
	for i := range b {
		b[i] = byte(7*i + 1)
	}
	return b
}

// lit returns a Literal of n bytes.
func lit(to, n int) api.Command { return api.Command{Kind: 2, To: to, Data: text(n)} }

// cp returns a Copy of n bytes.
func cp(to, from, n int) api.Command { return api.Command{Kind: 1, To: to, From: from, Len: n} }

// sum adds as integers of any size.
func sum(a ...int) *big.Int {
	n := new(big.Int)
	for _, i := range a {
		n.Add(n, big.NewInt(int64(i)))
	}
	return n
}

// after reports whether bytes end after an offset, with a sum of any size.
func after(off, n, end int) bool { return sum(off, n).Cmp(sum(end)) > 0 }

// length returns the number of bytes that a valid command writes.
func length(c api.Command) int { return c.Len + len(c.Data) }

// defined returns the result of Check by its definition; each pair of commands is compared.
func defined(d api.Delta) api.Fault {
	if d.OldLen < 0 || d.OldLen > top || d.NewLen < 0 || d.NewLen > top {
		return api.Fault{Code: api.ErrRange, At: -1}
	}
	for i, c := range d.Commands {
		switch code := command.Check(c); {
		case code != api.OK:
			return api.Fault{Code: code, At: i}
		case c.Kind == 1 && after(c.From, c.Len, d.OldLen):
			return api.Fault{Code: api.ErrSource, At: i}
		case after(c.To, length(c), d.NewLen):
			return api.Fault{Code: api.ErrLength, At: i}
		}
	}
	for i, c := range d.Commands {
		for _, b := range d.Commands[:i] {
			if after(b.To, length(b), c.To) && after(c.To, length(c), b.To) {
				return api.Fault{Code: api.ErrOverlap, At: i}
			}
		}
	}
	return definedGap(d)
}

// definedGap returns the fault of the first byte without a command, for commands that are right otherwise.
func definedGap(d api.Delta) api.Fault {
	for off := 0; off < d.NewLen; {
		i := slices.IndexFunc(d.Commands, func(c api.Command) bool { return c.To == off })
		if i < 0 {
			return api.Fault{Code: api.ErrGap, At: off}
		}
		off += length(d.Commands[i])
	}
	return none
}

// equal compares all fields of commands, without command.Same.
func equal(a, b []api.Command) bool {
	return slices.EqualFunc(a, b, func(a, b api.Command) bool {
		return a.Kind == b.Kind && a.To == b.To && a.From == b.From && a.Len == b.Len && string(a.Data) == string(b.Data)
	})
}

// identical compares all fields of deltas, without Same.
func identical(a, b api.Delta) bool {
	return a.OldLen == b.OldLen && a.NewLen == b.NewLen && a.OldHash == b.OldHash && a.NewHash == b.NewHash && equal(a.Commands, b.Commands)
}

// tidy returns commands of 1 to most bytes, alternately of both kinds, which write a new file in ascending order.
func tidy(r *rand.Rand, newLen, oldLen, most int) []api.Command {
	var l []api.Command
	for off := 0; off < newLen; {
		n := min(1+r.Intn(most), newLen-off)
		if r.Intn(2) == 0 && n <= oldLen {
			l = append(l, cp(off, r.Intn(oldLen-n+1), n))
		} else {
			l = append(l, lit(off, n))
		}
		off += n
	}
	return l
}

// mixed returns commands in another order.
func mixed(r *rand.Rand, l []api.Command) []api.Command {
	l = slices.Clone(l)
	r.Shuffle(len(l), func(i, j int) { l[i], l[j] = l[j], l[i] })
	return l
}

// deltas returns valid deltas of random lengths up to 40, with their commands in any order.
func deltas(count int) []api.Delta {
	r := rand.New(rand.NewSource(1))
	var l []api.Delta
	for range count {
		oldLen, newLen := r.Intn(20), r.Intn(41)
		l = append(l, of(oldLen, newLen, mixed(r, tidy(r, newLen, oldLen, 1+r.Intn(9)))...))
	}
	return l
}

// compare checks Check and Valid of a delta by the definition.
func compare(t *testing.T, d api.Delta) {
	t.Helper()
	want := defined(d)
	if got := Check(d); got != want {
		t.Fatalf("Check(%v) = %v, not %v", d, got, want)
	}
	if got := Valid(d); got != (want == none) {
		t.Fatalf("Valid(%v) = %v", d, got)
	}
}

// P5.1: all lists of up to three from 28 commands, valid or not, and of up to four from the valid ones, for files of up to four bytes.
func TestCheckOfSmall(t *testing.T) {
	all := []api.Command{{}, cp(0, 0, 0), cp(1, 0, -1), cp(0, 1, 2), cp(1, 2, 1), cp(2, 0, 2), cp(1, 0, 4), cp(2, 2, 2)}
	for to := range 5 {
		for n := range 4 {
			all = append(all, lit(to, n+1))
		}
	}
	var lists func(l []api.Command, left int)
	lists = func(l []api.Command, left int) {
		for newLen := range 5 {
			compare(t, of(3, newLen, l...))
		}
		if left == 0 {
			return
		}
		for _, c := range all {
			lists(append(l, c), left-1)
		}
	}
	lists(nil, 3)
	all = slices.DeleteFunc(all, func(c api.Command) bool { return command.Check(c) != api.OK || c.To+length(c) > 4 })
	lists(nil, 4)
}

// P5.1: long lists, which are valid, or in which a command was left out, moved, repeated or changed.
func TestCheckOfLong(t *testing.T) {
	r := rand.New(rand.NewSource(2))
	found := map[api.Errno]int{}
	for range 20000 {
		newLen := r.Intn(60)
		l := mixed(r, tidy(r, newLen, 9, 1+r.Intn(7)))
		for range r.Intn(4) {
			if len(l) == 0 {
				break
			}
			switch i := r.Intn(len(l)); r.Intn(5) {
			case 0:
				l = slices.Delete(l, i, i+1)
			case 1:
				l[i].To += r.Intn(5) - 2
			case 2:
				l = slices.Insert(l, r.Intn(len(l)+1), l[i])
			case 3:
				l[i].From += r.Intn(3) - 1
			case 4:
				l = slices.Insert(l, i, lit(r.Intn(newLen+1), 1+r.Intn(9)))
			}
		}
		d := of(9, newLen, l...)
		compare(t, d)
		found[Check(d).Code]++
	}
	for _, code := range []api.Errno{api.OK, api.ErrRange, api.ErrGap, api.ErrOverlap, api.ErrSource, api.ErrLength} {
		if found[code] < 100 {
			t.Errorf("the error %d was found %d times only", code, found[code])
		}
	}
}

// P5.1: lengths in their range and outside of it; the error precedes those of commands.
func TestCheckLengths(t *testing.T) {
	for _, a := range edges {
		for _, b := range edges {
			for _, l := range [][]api.Command{nil, {}, {cp(0, 0, 1)}, {lit(0, 1)}, {{}}, {cp(0, 0, top)}, {cp(0, 0, 1), cp(0, 0, 1)}} {
				d := of(a, b, l...)
				compare(t, d)
				if outside := a < 0 || a > top || b < 0 || b > top; outside != (Check(d) == api.Fault{Code: api.ErrRange, At: -1}) {
					t.Errorf("Check(%v) = %v", d, Check(d))
				}
			}
		}
	}
}

// P5.1: commands with fields at which sums overflow.
func TestCheckOfEdges(t *testing.T) {
	for _, to := range edges {
		for _, from := range edges {
			for _, n := range edges {
				for _, size := range []int{0, 1, 3, top - 1, top} {
					compare(t, of(size, size, cp(to, from, n)))
					compare(t, of(top, size, cp(to, from, n)))
					compare(t, of(size, top, cp(to, from, n)))
				}
			}
			compare(t, of(top, top, lit(to, 3), lit(from, 2)))
			compare(t, of(0, 3, lit(to, 3), lit(from, 2)))
		}
	}
}

// P5.1: each fault alone and together with later ones.
func TestCheckOrder(t *testing.T) {
	fault := func(code api.Errno, at int) api.Fault { return api.Fault{Code: code, At: at} }
	for i, e := range []struct {
		d    api.Delta
		want api.Fault
	}{
		{api.Delta{}, none},
		{of(4, 6, cp(2, 0, 4), lit(0, 2)), none},
		{of(4, 6, cp(2, 0, 4)), fault(api.ErrGap, 0)},
		{of(4, 6, lit(0, 2)), fault(api.ErrGap, 2)},
		{of(4, 6, lit(0, 2), lit(3, 3)), fault(api.ErrGap, 2)},
		{of(4, 6, lit(3, 1), lit(0, 2), lit(5, 1)), fault(api.ErrGap, 2)},
		{of(4, 6, lit(0, 5)), fault(api.ErrGap, 5)},
		{of(4, 6), fault(api.ErrGap, 0)},
		{of(4, 0), none},
		{of(4, 0, lit(0, 1)), fault(api.ErrLength, 0)},
		{of(-1, 6, api.Command{}), fault(api.ErrRange, -1)},
		{of(4, -1, api.Command{}), fault(api.ErrRange, -1)},
		{of(4, top+1, api.Command{}), fault(api.ErrRange, -1)},
		{of(top+1, 6, api.Command{}), fault(api.ErrRange, -1)},
		{of(4, 6, api.Command{}), fault(api.ErrKind, 0)},
		{of(4, 6, lit(0, 2), api.Command{Kind: 3}), fault(api.ErrKind, 1)},
		{of(4, 6, lit(0, 2), cp(9, 9, 0)), fault(api.ErrEmpty, 1)},
		{of(4, 6, lit(0, 2), lit(9, 0)), fault(api.ErrEmpty, 1)},
		{of(4, 6, lit(0, 2), cp(-1, 9, 3)), fault(api.ErrRange, 1)},
		{of(4, 6, lit(0, 2), cp(9, 9, -3)), fault(api.ErrRange, 1)},
		{of(4, 6, lit(0, 2), api.Command{Kind: 1, To: 9, From: 9, Len: 3, Data: text(3)}), fault(api.ErrRange, 1)},
		{of(4, 6, lit(0, 2), cp(9, 2, 3)), fault(api.ErrSource, 1)},
		{of(4, 6, lit(0, 2), cp(0, 1, 4)), fault(api.ErrSource, 1)},
		{of(4, 6, lit(0, 2), cp(3, 0, 4)), fault(api.ErrLength, 1)},
		{of(4, 6, lit(0, 2), lit(0, 7)), fault(api.ErrLength, 1)},
		{of(4, 6, lit(0, 2), lit(1, 2), lit(6, 1)), fault(api.ErrLength, 2)},
		{of(4, 6, cp(0, 4, 1), cp(6, 0, 1), api.Command{}), fault(api.ErrSource, 0)},
		{of(4, 6, cp(6, 0, 1), cp(0, 4, 1), api.Command{}), fault(api.ErrLength, 0)},
		{of(4, 6, lit(3, 2), lit(4, 1)), fault(api.ErrOverlap, 1)},
		{of(4, 6, lit(4, 1), lit(3, 2)), fault(api.ErrOverlap, 1)},
		{of(4, 6, lit(0, 6), lit(5, 1), lit(0, 1)), fault(api.ErrOverlap, 1)},
		{of(4, 6, lit(5, 1), lit(0, 1), lit(0, 6)), fault(api.ErrOverlap, 2)},
		{of(4, 6, lit(2, 2), lit(0, 2), lit(4, 1), lit(1, 1), lit(2, 1)), fault(api.ErrOverlap, 3)},
		{of(4, 6, lit(2, 2), lit(0, 2), lit(4, 1), lit(2, 1), lit(1, 1)), fault(api.ErrOverlap, 3)},
		{of(4, 6, lit(0, 3), cp(3, 0, 3), lit(0, 3)), fault(api.ErrOverlap, 2)},
		{of(top, top, cp(0, 0, top)), none},
		{of(top, top, cp(1, 0, top-1), lit(0, 1)), none},
		{of(top, top, cp(0, 1, top-1), lit(top-1, 1)), none},
		{of(top, top, cp(0, 1, top-1)), fault(api.ErrGap, top-1)},
		{of(top, top, cp(0, 1, top-1), lit(top-2, 2)), fault(api.ErrOverlap, 1)},
		{of(top, top-1, cp(0, 0, top)), fault(api.ErrLength, 0)},
		{of(top-1, top, cp(0, 0, top)), fault(api.ErrSource, 0)},
		{of(top, top, cp(0, 1, top)), fault(api.ErrRange, 0)},
		{of(top, top, cp(1, 0, top)), fault(api.ErrRange, 0)},
	} {
		if got := Check(e.d); got != e.want {
			t.Errorf("%d: Check(%v) = %v, not %v", i, e.d, got, e.want)
		}
		if got := Valid(e.d); got != (e.want == none) {
			t.Errorf("%d: Valid(%v) = %v", i, e.d, got)
		}
		compare(t, e.d)
	}
}

// P5.1: the digests do not matter.
func TestCheckIgnoresDigests(t *testing.T) {
	d := of(4, 6, cp(2, 0, 4), lit(0, 2))
	d.OldHash, d.NewHash = [32]byte{}, [32]byte{}
	if Check(d) != none || !Valid(d) {
		t.Error("a delta without digests is not valid")
	}
}

// P5.1 and P1: many commands, in an order in which a comparison of each pair would not end in time.
func TestManyCommands(t *testing.T) {
	const n = 1 << 18
	r := rand.New(rand.NewSource(3))
	var l []api.Command
	for i := range n {
		l = append(l, cp(2*(n-1-i), i, 2))
	}
	for range 3 {
		d := of(n+1, 2*n, l...)
		if f := Check(d); f != none {
			t.Fatal(f)
		}
		for _, i := range []int{1, 2, n / 2, n - 2, n - 1} {
			was := l[i]
			l[i] = l[i/2]
			if f := Check(d); f != (api.Fault{Code: api.ErrOverlap, At: i}) {
				t.Errorf("overlap at %d: %v", i, f)
			}
			l[i] = was
			if f := Check(of(n+1, 2*n, slices.Concat(l[:i], l[i+1:])...)); f != (api.Fault{Code: api.ErrGap, At: was.To}) {
				t.Errorf("gap at %d: %v", was.To, f)
			}
		}
		if s := Sort(d); len(s.Commands) != n || s.Commands[0].To != 0 || s.Commands[n/2].To != n || s.Commands[n-1].To != 2*n-2 {
			t.Error("many commands were not sorted")
		}
		l = mixed(r, l)
	}
}

// P5.2: each offset in the new file and around it.
func TestFind(t *testing.T) {
	for _, d := range deltas(2000) {
		owner := map[int]int{}
		for i, c := range d.Commands {
			for j := range length(c) {
				owner[c.To+j] = i
			}
		}
		for _, off := range append(slices.Clone(edges), rangeOf(-3, d.NewLen+4)...) {
			want, ok := owner[off]
			if !ok {
				want = -1
			}
			if got := Find(d, off); got != want {
				t.Fatalf("Find(%v, %d) = %d, not %d", d, off, got, want)
			}
		}
	}
}

// rangeOf returns the numbers from one to the one before another.
func rangeOf(from, to int) []int {
	var l []int
	for i := from; i < to; i++ {
		l = append(l, i)
	}
	return l
}

// P5.2: deltas without commands, and the greatest offsets.
func TestFindAtEdges(t *testing.T) {
	long := of(top, top, lit(top-1, 1), cp(1, 0, top-2), lit(0, 1))
	if !Valid(long) {
		t.Fatal(Check(long))
	}
	for _, off := range edges {
		want := 1
		switch {
		case off < 0 || off >= top:
			want = -1
		case off == 0:
			want = 2
		case off == top-1:
			want = 0
		}
		if got := Find(long, off); got != want {
			t.Errorf("Find(%v, %d) = %d", long, off, got)
		}
		if got := Find(api.Delta{}, off); got != -1 {
			t.Errorf("Find of a zero Delta, %d = %d", off, got)
		}
	}
}

// P5.3: the sums by the commands; together they are NewLen.
func TestTotals(t *testing.T) {
	for _, d := range append(deltas(2000), api.Delta{}, of(5, 0)) {
		copied, literal := 0, 0
		for _, c := range d.Commands {
			copied += c.Len
			literal += len(c.Data)
		}
		if a, b := Totals(d); a != copied || b != literal || a+b != d.NewLen {
			t.Fatalf("Totals(%v) = %d, %d", d, a, b)
		}
	}
	for _, e := range []struct {
		d               api.Delta
		copied, literal int
	}{
		{of(4, 6, cp(2, 0, 4), lit(0, 2)), 4, 2},
		{of(4, 6, cp(4, 2, 2), cp(2, 2, 2), cp(0, 2, 2)), 6, 0},
		{of(4, 6, lit(0, 6)), 0, 6},
		{of(top, top, cp(0, 0, top)), top, 0},
		{of(top, top, cp(0, 0, top-3), lit(top-3, 3)), top - 3, 3},
	} {
		if a, b := Totals(e.d); a != e.copied || b != e.literal {
			t.Errorf("Totals(%v) = %d, %d", e.d, a, b)
		}
	}
}

// P5.4: the same commands in ascending order, whatever their order was.
func TestSort(t *testing.T) {
	r := rand.New(rand.NewSource(4))
	for range 3000 {
		newLen := r.Intn(60)
		want := of(9, newLen, tidy(r, newLen, 9, 1+r.Intn(7))...)
		d := want
		d.Commands = mixed(r, want.Commands)
		if got := Sort(d); !identical(got, want) {
			t.Fatalf("Sort(%v) = %v", d, got)
		}
	}
	for _, d := range []api.Delta{{}, of(7, 0), of(0, 1, lit(0, 1)), of(top, top, cp(0, 0, top))} {
		if got := Sort(d); !identical(got, d) {
			t.Errorf("Sort(%v) = %v", d, got)
		}
	}
	long := of(top, top, lit(top-1, 1), cp(1, 0, top-2), lit(0, 1))
	if got := Sort(long); !identical(got, of(top, top, lit(0, 1), cp(1, 0, top-2), lit(top-1, 1))) {
		t.Errorf("Sort(%v) = %v", long, got)
	}
}

// P5.4: other commands with arbitrary fields, in order; all else stays.
func TestWith(t *testing.T) {
	odd := []api.Command{{}, {Kind: math.MinInt, To: -1, From: top + 1, Len: math.MaxInt, Data: text(3)}, lit(0, 1), cp(5, 5, 0), lit(0, 1)}
	for _, d := range []api.Delta{{}, of(4, 6, cp(2, 0, 4), lit(0, 2)), of(-1, math.MaxInt, odd...)} {
		keep := With(d, d.Commands...)
		for n := range len(odd) + 1 {
			want := d
			want.Commands = odd[:n]
			if got := With(d, odd[:n]...); !identical(got, want) {
				t.Errorf("With(%v, %v) = %v", d, odd[:n], got)
			}
		}
		if got := With(d); len(got.Commands) != 0 {
			t.Errorf("With(%v) = %v", d, got)
		}
		if !identical(d, keep) {
			t.Errorf("the delta is now %v", d)
		}
	}
}

// P5.4: each field matters, those of commands too, and also their order.
func TestSame(t *testing.T) {
	d := of(4, 6, cp(2, 0, 4), lit(0, 2))
	if !Same(d, d) || !Same(d, With(d, d.Commands...)) || !Same(api.Delta{}, api.Delta{}) {
		t.Error("equal deltas are not the same")
	}
	others := []api.Delta{
		{}, of(5, 6, d.Commands...), of(4, 5, d.Commands...), of(4, 6), of(4, 6, d.Commands[:1]...),
		of(4, 6, d.Commands[1], d.Commands[0]), of(4, 6, slices.Concat(d.Commands, d.Commands)...),
		of(4, 6, lit(2, 4), lit(0, 2)), of(4, 6, cp(1, 0, 4), lit(0, 2)), of(4, 6, cp(2, 1, 4), lit(0, 2)),
		of(4, 6, cp(2, 0, 3), lit(0, 2)), of(4, 6, cp(2, 0, 4), lit(0, 3)), of(4, 6, cp(2, 0, 4), lit(1, 2)),
		of(4, 6, cp(2, 0, 4), api.Command{Kind: 2, Data: []byte{1, 9}}),
	}
	for i := range 32 {
		a, b := d, d
		a.OldHash[i]++
		b.NewHash[i]++
		others = append(others, a, b)
	}
	for i, a := range others {
		if Same(a, d) || Same(d, a) {
			t.Errorf("%d: %v and %v are the same", i, a, d)
		}
		for j, b := range others {
			if got := Same(a, b); got != (i == j) {
				t.Errorf("Same(%v, %v) = %v", a, b, got)
			}
		}
	}
}

// P5.4 and rule 4: an empty slice may be nil.
func TestSameOfEmpty(t *testing.T) {
	a, b := of(4, 4, cp(0, 0, 4)), of(4, 4, cp(0, 0, 4))
	b.Commands[0].Data = []byte{}
	if !Same(a, b) || !Same(b, a) || !Valid(a) || !Valid(b) {
		t.Error("an empty Data that is nil is another one")
	}
	a, b = of(4, 0), of(4, 0)
	b.Commands = []api.Command{}
	if !Same(a, b) || !Same(b, a) || !Valid(a) || !Valid(b) {
		t.Error("an empty list that is nil is another one")
	}
}

// spoil overwrites the commands of a result and their bytes, up to the capacity of the slices. It reports whether each Literal had some bytes until its turn.
func spoil(d api.Delta, bytes []byte) bool {
	had := true
	l := d.Commands[:cap(d.Commands)]
	for i, c := range l {
		if c.Kind == 2 && string(c.Data) != string(bytes) {
			had = false
		}
		b := c.Data[:cap(c.Data)]
		for j := range b {
			b[j] ^= 0xff
		}
		l[i] = api.Command{Kind: -5, To: -5, From: -5, Len: -5}
	}
	return had
}

// P5.4 and rule 4: results share no memory with arguments or with other results, and no two of their commands share any.
func TestResultsShareNoMemory(t *testing.T) {
	for n := 1; n < 40; n++ {
		data := append(make([]byte, 0, 100), text(n)...)
		after := lit(0, 5)
		long := []api.Command{{Kind: 2, To: n, Data: data}, cp(2*n, 0, 4), {Kind: 2, To: 0, Data: data}, after}
		d := of(4, 2*n+4, long[:3]...)
		listed := []api.Command{lit(n, n), cp(2*n, 0, 4), lit(0, n)}
		sorted := []api.Command{lit(0, n), lit(n, n), cp(2*n, 0, 4)}
		for i, r := range []struct {
			d    api.Delta
			want []api.Command
		}{{Sort(d), sorted}, {Sort(d), sorted}, {With(d, d.Commands...), listed}, {With(d, d.Commands...), listed}} {
			if !equal(r.d.Commands, r.want) {
				t.Fatalf("%d bytes: result %d is %v", n, i, r.d)
			}
			if !spoil(r.d, text(n)) {
				t.Fatalf("%d bytes: two commands of result %d share memory", n, i)
			}
			if string(data[:100]) != string(append(text(n), make([]byte, 100-n)...)) || !equal(long, append(slices.Clone(listed), after)) {
				t.Fatalf("%d bytes: result %d shares memory with an argument", n, i)
			}
		}
	}
}

// Rule 4: arguments are not modified, and commands beyond the length of a slice are neither read nor written.
func TestArguments(t *testing.T) {
	for _, d := range deltas(300) {
		long := append(append(make([]api.Command, 0, 2*len(d.Commands)+2), d.Commands...), lit(0, 1), lit(0, 1))
		keep := With(d, long...)
		d.Commands = long[:len(d.Commands)]
		if Check(d) != none || !Valid(d) || !Same(d, d) || Find(d, d.NewLen) != -1 {
			t.Fatalf("commands after the end were read: %v", d)
		}
		if _, literal := Totals(d); literal > d.NewLen || len(Sort(d).Commands) != len(d.Commands) {
			t.Fatalf("commands after the end were read: %v", d)
		}
		With(d, d.Commands...)
		if !equal(long, keep.Commands) {
			t.Fatalf("the commands are now %v", long)
		}
	}
}

// P1: every function returns for all arguments, also those for which it is not specified.
func TestAllArguments(t *testing.T) {
	var l []api.Command
	for _, kind := range []int{-1, 0, 1, 2, 3} {
		for i, to := range edges {
			for j, from := range edges {
				l = append(l, api.Command{Kind: kind, To: to, From: from, Len: edges[(i+j)%len(edges)], Data: text((i + j) % 3)})
			}
		}
	}
	for i, oldLen := range edges {
		for _, newLen := range edges {
			d := of(oldLen, newLen, l[i*90:i*90+90]...)
			for _, off := range edges {
				Find(d, off)
			}
			Check(d)
			Valid(d)
			Totals(d)
			if s := Sort(d); len(s.Commands) != len(d.Commands) || !Same(s, With(s, s.Commands...)) {
				t.Errorf("Sort(%v) = %v", d, s)
			}
		}
	}
}

// Rules 6 and 7: the functions may be called concurrently, and their results depend on the arguments only.
func TestConcurrentCalls(t *testing.T) {
	var group sync.WaitGroup
	wrong := make([]bool, 8)
	shared := deltas(200)
	for i := range wrong {
		group.Go(func() {
			for _, d := range shared {
				s := Sort(d)
				a, b := Totals(s)
				wrong[i] = wrong[i] || Check(d) != none || !Valid(s) || a+b != d.NewLen || !Same(With(s, d.Commands...), d)
				wrong[i] = wrong[i] || Find(d, -1) != -1 || d.NewLen > 0 && Find(s, d.NewLen-1) != len(s.Commands)-1
			}
		})
	}
	group.Wait()
	for i, w := range wrong {
		if w {
			t.Errorf("goroutine %d had other results", i)
		}
	}
}

// The targets are a range-function: a loop may leave it early, and range over it again.
func TestTargetsStopEarly(t *testing.T) {
	all := upTo(ascending([]api.Command{lit(4, 2), lit(0, 1), lit(9, 1), lit(1, 3)}), 3)
	for range 2 {
		var got []api.Extent
		for e := range all {
			if got = append(got, e); len(got) == 2 {
				break
			}
		}
		if !slices.Equal(got, []api.Extent{{Off: 0, Len: 1}, {Off: 1, Len: 3}}) {
			t.Error(got)
		}
	}
}
