package octet

import (
	"bytes"
	"encoding/binary"
	"math"
	"math/big"
	"math/rand"
	"strings"
	"testing"

	"abaculus/frac"
	"abaculus/nat"
	"abaculus/whole"
)

// The tests hold the encoding against encoding/binary and math/big, and the
// sums against hash/fnv. This file has those for 4.1, and what all tests use.

func written(write func(w *Writer)) []byte {
	w := NewWriter()
	write(w)
	return w.Bytes()
}

// expectExact checks that what a call returns has no spare capacity.
func expectExact(t *testing.T, what string, b []byte) {
	t.Helper()
	if cap(b) != len(b) {
		t.Fatal(what, "has spare capacity", len(b), cap(b))
	}
}

// counts is the counts from 0 to MaxInt around which the number of groups changes.
func counts() []int {
	list := []int{0, 1, 2, 5, 100, 300, 1000, math.MaxInt - 1, math.MaxInt}
	for shift := 1; shift < 63; shift++ {
		list = append(list, 1<<shift-1, 1<<shift, 1<<shift+1)
	}
	return list
}

func power(n int) whole.Int {
	p, _ := whole.Of(2).Pow(n)
	return p
}

// wholes is integers of both signs around which the number of bytes changes,
// and some whose bytes are of any kind.
func wholes() []whole.Int {
	list := []whole.Int{{}}
	for _, bits := range []int{1, 7, 8, 9, 16, 24, 63, 64, 65, 128, 500, 512, 8000} {
		for _, more := range []int64{-1, 0, 1} {
			a := power(bits).Add(whole.Of(more))
			list = append(list, a, a.Neg())
		}
	}
	r := rand.New(rand.NewSource(1))
	for n := range 40 {
		b := make([]byte, n)
		r.Read(b)
		list = append(list, whole.From(n%2 == 0, nat.FromBytes(b)))
	}
	return list
}

func fracs() []frac.Q {
	var list []frac.Q
	all := wholes()
	for i, a := range all {
		for _, j := range []int{0, i + 1, 7*i + 3, 11*i + 5} {
			if q, ok := frac.Make(a, all[j%len(all)]); ok {
				list = append(list, q)
			}
		}
	}
	return list
}

func texts() []string {
	return []string{"", "a", "hi", "né", "\x00", "\xff\xfe", "1/2", strings.Repeat("b", 127), strings.Repeat("c", 128), strings.Repeat("d", 20000)}
}

// TestWrittenExamples has the bytes of all values that the chapter describes.
func TestWrittenExamples(t *testing.T) {
	third, _ := frac.Over(-2, 6)
	long, _ := frac.Make(power(16), whole.Of(300*3))
	for i, x := range []struct {
		write func(w *Writer)
		want  []byte
	}{
		{func(w *Writer) {}, nil},
		{func(w *Writer) { w.Count(0) }, []byte{0}},
		{func(w *Writer) { w.Count(-1) }, []byte{0}},
		{func(w *Writer) { w.Count(math.MinInt) }, []byte{0}},
		{func(w *Writer) { w.Count(1) }, []byte{1}},
		{func(w *Writer) { w.Count(127) }, []byte{0x7f}},
		{func(w *Writer) { w.Count(128) }, []byte{0x80, 1}},
		{func(w *Writer) { w.Count(300) }, []byte{0xac, 2}},
		{func(w *Writer) { w.Count(1<<14 - 1) }, []byte{0xff, 0x7f}},
		{func(w *Writer) { w.Count(1 << 14) }, []byte{0x80, 0x80, 1}},
		{func(w *Writer) { w.Count(1 << 62) }, []byte{0x80, 0x80, 0x80, 0x80, 0x80, 0x80, 0x80, 0x80, 0x40}},
		{func(w *Writer) { w.Count(math.MaxInt) }, []byte{0xff, 0xff, 0xff, 0xff, 0xff, 0xff, 0xff, 0xff, 0x7f}},
		{func(w *Writer) { w.Whole(whole.Int{}) }, []byte{0}},
		{func(w *Writer) { w.Whole(whole.Of(1)) }, []byte{2, 1}},
		{func(w *Writer) { w.Whole(whole.Of(-1)) }, []byte{3, 1}},
		{func(w *Writer) { w.Whole(whole.Of(255)) }, []byte{2, 255}},
		{func(w *Writer) { w.Whole(whole.Of(-256)) }, []byte{5, 1, 0}},
		{func(w *Writer) { w.Whole(whole.Of(0x10203)) }, []byte{6, 1, 2, 3}},
		{func(w *Writer) { w.Whole(whole.Of(math.MinInt64)) }, []byte{17, 0x80, 0, 0, 0, 0, 0, 0, 0}},
		{func(w *Writer) { w.Frac(frac.Q{}) }, []byte{0, 1, 1}},
		{func(w *Writer) { w.Frac(frac.Of(-7)) }, []byte{3, 7, 1, 1}},
		{func(w *Writer) { w.Frac(third) }, []byte{3, 1, 1, 3}},
		{func(w *Writer) { w.Frac(long) }, []byte{4, 0x40, 0, 1, 225}},
		{func(w *Writer) { w.Text("") }, []byte{0}},
		{func(w *Writer) { w.Text("hi") }, []byte{2, 'h', 'i'}},
		{func(w *Writer) { w.Text("né\xff") }, []byte{4, 'n', 0xc3, 0xa9, 0xff}},
		{func(w *Writer) { w.Bool(true) }, []byte{1}},
		{func(w *Writer) { w.Bool(false) }, []byte{0}},
		{func(w *Writer) { w.Bool(true); w.Text("a"); w.Count(300); w.Whole(whole.Of(-1)) }, []byte{1, 1, 'a', 0xac, 2, 3, 1}},
	} {
		if got := written(x.write); !bytes.Equal(got, x.want) {
			t.Error(i, got, x.want)
		}
	}
}

func TestWrittenCounts(t *testing.T) {
	for _, n := range counts() {
		if got, want := written(func(w *Writer) { w.Count(n) }), binary.AppendUvarint(nil, uint64(n)); !bytes.Equal(got, want) {
			t.Error(n, got, want)
		}
		if got := written(func(w *Writer) { w.Count(-n) }); !bytes.Equal(got, []byte{0}) {
			t.Error(-n, got)
		}
	}
}

// layOut is what 4.1 says of Whole and of the denominator of a Frac.
func layOut(n *big.Int, signed bool) []byte {
	count := uint64(len(n.Bytes()))
	if signed {
		count *= 2
		if n.Sign() < 0 {
			count++
		}
	}
	return append(binary.AppendUvarint(nil, count), n.Bytes()...)
}

func toBig(neg bool, a nat.Nat) *big.Int {
	n, _ := new(big.Int).SetString(a.Text(), 10)
	if neg {
		n.Neg(n)
	}
	return n
}

func TestWrittenNumbers(t *testing.T) {
	for _, a := range wholes() {
		want := layOut(toBig(a.Sign() < 0, a.Abs()), true)
		if got := written(func(w *Writer) { w.Whole(a) }); !bytes.Equal(got, want) {
			t.Error(a.Text(), got, want)
		}
	}
	for _, a := range fracs() {
		want := append(layOut(toBig(a.Sign() < 0, a.Num().Abs()), true), layOut(toBig(false, a.Den()), false)...)
		if got := written(func(w *Writer) { w.Frac(a) }); !bytes.Equal(got, want) {
			t.Error(a.Text(), got, want)
		}
	}
}

func TestWrittenTexts(t *testing.T) {
	for _, s := range texts() {
		want := append(binary.AppendUvarint(nil, uint64(len(s))), s...)
		if got := written(func(w *Writer) { w.Text(s) }); !bytes.Equal(got, want) {
			t.Errorf("%q: %v", s, got)
		}
	}
}

// TestBytesShareNoMemory changes what Bytes returned, appends to it, and goes
// on writing: neither the Writer nor what it returned before may change.
func TestBytesShareNoMemory(t *testing.T) {
	w := NewWriter()
	if len(w.Bytes()) != 0 {
		t.Fatal(w.Bytes())
	}
	var want []byte
	for n := range 300 {
		before := w.Bytes()
		expectExact(t, "Bytes", before)
		again := w.Bytes()
		for i := range again {
			again[i]++
		}
		again = append(again, 77)
		w.Count(n)
		if !bytes.Equal(before, want) {
			t.Fatal(n, before, want)
		}
		want = binary.AppendUvarint(want, uint64(n))
		if got := w.Bytes(); !bytes.Equal(got, want) {
			t.Fatal(n, got, want, again)
		}
	}
}
