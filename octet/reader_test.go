package octet

import (
	"bytes"
	"encoding/binary"
	"math"
	"math/rand"
	"slices"
	"strconv"
	"strings"
	"testing"

	"abaculus/frac"
	"abaculus/nat"
	"abaculus/whole"
)

// value is a value of any kind: how it is written, and whether a Reader reads
// the same value.
type value struct {
	name  string
	write func(w *Writer)
	same  func(r *Reader) bool
}

func countValue(n int) value {
	return value{"count", func(w *Writer) { w.Count(n) }, func(r *Reader) bool { return r.Count(n) == n }}
}

func wholeValue(a whole.Int) value {
	return value{"whole " + a.Text(), func(w *Writer) { w.Whole(a) }, func(r *Reader) bool { return r.Whole().Cmp(a) == 0 }}
}

func fracValue(a frac.Q) value {
	return value{"frac " + a.Text(), func(w *Writer) { w.Frac(a) }, func(r *Reader) bool { return r.Frac().Cmp(a) == 0 }}
}

func textValue(s string) value {
	return value{"text of " + strconv.Itoa(len(s)) + " bytes", func(w *Writer) { w.Text(s) }, func(r *Reader) bool { return r.Text(len(s)) == s }}
}

func boolValue(b bool) value {
	return value{"bool", func(w *Writer) { w.Bool(b) }, func(r *Reader) bool { return r.Bool() == b }}
}

func values() []value {
	list := []value{boolValue(true), boolValue(false)}
	for _, n := range counts() {
		if n <= 1<<62 {
			list = append(list, countValue(n))
		}
	}
	for _, a := range wholes() {
		list = append(list, wholeValue(a))
	}
	for _, a := range fracs() {
		list = append(list, fracValue(a))
	}
	for _, s := range texts() {
		list = append(list, textValue(s))
	}
	return list
}

// expectBad checks that a Reader is bad and that it stays so.
func expectBad(t *testing.T, what string, r *Reader) {
	t.Helper()
	for range 2 {
		if !r.Bad() || r.Left() != 0 {
			t.Fatal(what, "is not bad", r.Bad(), r.Left())
		}
		if n := r.Count(math.MaxInt); n != 0 {
			t.Fatal(what, "Count", n)
		}
		if a := r.Whole(); a.Sign() != 0 {
			t.Fatal(what, "Whole", a.Text())
		}
		if a := r.Frac(); a.Sign() != 0 {
			t.Fatal(what, "Frac", a.Text())
		}
		if s := r.Text(math.MaxInt); s != "" {
			t.Fatal(what, "Text", s)
		}
		if r.Bool() {
			t.Fatal(what, "Bool")
		}
	}
}

// 4.2

// TestReadRefuses has bytes that no Writer writes for the value that is read.
// Bytes that follow them, which would be values, are not read any more.
func TestReadRefuses(t *testing.T) {
	count := func(most int) func(r *Reader) bool { return func(r *Reader) bool { return r.Count(most) == 0 } }
	text := func(most int) func(r *Reader) bool { return func(r *Reader) bool { return r.Text(most) == "" } }
	aWhole := func(r *Reader) bool { return r.Whole().Sign() == 0 }
	aFrac := func(r *Reader) bool { return r.Frac().Sign() == 0 }
	aBool := func(r *Reader) bool { return !r.Bool() }
	for i, x := range []struct {
		b    []byte
		read func(r *Reader) bool
	}{
		// more bytes than necessary
		{[]byte{0x80, 0}, count(math.MaxInt)},
		{[]byte{0x81, 0}, count(math.MaxInt)},
		{[]byte{0xac, 0x82, 0}, count(math.MaxInt)},
		{append(bytes.Repeat([]byte{0x80}, 20), 0), count(math.MaxInt)},
		// above most
		{[]byte{6}, count(5)},
		{[]byte{0x80, 1}, count(127)},
		{[]byte{0}, count(-1)},
		{[]byte{1}, count(-1)},
		{[]byte{0}, count(math.MinInt)},
		// above 2^62
		{[]byte{0x81, 0x80, 0x80, 0x80, 0x80, 0x80, 0x80, 0x80, 0x40}, count(math.MaxInt)},
		{[]byte{0xff, 0xff, 0xff, 0xff, 0xff, 0xff, 0xff, 0xff, 0x7f}, count(math.MaxInt)},
		{binary.AppendUvarint(nil, 1<<63), count(math.MaxInt)},
		{binary.AppendUvarint(nil, math.MaxUint64), count(math.MaxInt)},
		{append(bytes.Repeat([]byte{0x80}, 9), 2), count(math.MaxInt)}, // 2^64, which is 0 in a word
		{append(bytes.Repeat([]byte{0x80}, 30), 1), count(math.MaxInt)},
		{append(bytes.Repeat([]byte{0xff}, 1000), 1), count(math.MaxInt)},
		// integers: a negative 0, and leading zero bytes
		{[]byte{1}, aWhole},
		{[]byte{1, 1}, aWhole},
		{[]byte{2, 0}, aWhole},
		{[]byte{3, 0}, aWhole},
		{[]byte{4, 0, 9}, aWhole},
		{[]byte{5, 0, 9}, aWhole},
		{[]byte{0x80, 0}, aWhole},
		{[]byte{0x82, 0, 1}, aWhole},
		// fractions
		{[]byte{1, 1, 1}, aFrac},             // the numerator is a negative 0
		{[]byte{2, 0, 1, 1}, aFrac},          // it has a leading zero byte
		{[]byte{2, 1, 0}, aFrac},             // the denominator is 0
		{[]byte{0, 0}, aFrac},                // both are 0
		{[]byte{2, 1, 1, 0}, aFrac},          // 0 with a byte
		{[]byte{2, 1, 2, 0, 3}, aFrac},       // a leading zero byte
		{[]byte{2, 1, 0x81, 0, 3}, aFrac},    // a Count with more bytes than necessary
		{[]byte{2, 2, 1, 4}, aFrac},          // 2/4
		{[]byte{3, 2, 1, 4}, aFrac},          // -2/4
		{[]byte{2, 4, 1, 2}, aFrac},          // 4/2
		{[]byte{2, 3, 1, 3}, aFrac},          // 3/3
		{[]byte{0, 1, 2}, aFrac},             // 0/2
		{[]byte{4, 1, 0, 2, 1, 2, 3}, aFrac}, // 256/258
		// texts
		{[]byte{2, 'a', 'b'}, text(1)},
		{[]byte{1, 'a'}, text(0)},
		{[]byte{0}, text(-1)},
		{[]byte{1, 'a'}, text(-1)},
		{[]byte{0x81, 0, 'a'}, text(9)},
		// truths
		{[]byte{2}, aBool},
		{[]byte{0x80}, aBool},
		{[]byte{255}, aBool},
	} {
		for _, rest := range [][]byte{nil, {0}, {1, 1, 1, 1, 1, 1, 1, 1, 1, 1, 1, 1}} {
			b := append(bytes.Clone(x.b), rest...)
			r := NewReader(b)
			if r.Bad() || r.Left() != len(b) {
				t.Error(i, "at first", r.Bad(), r.Left())
			}
			if !x.read(r) {
				t.Error(i, "a value beside Bad")
			}
			expectBad(t, strconv.Itoa(i), r)
		}
	}
}

// TestReadTooLittle ends the bytes of each value early, at each place.
func TestReadTooLittle(t *testing.T) {
	for _, v := range values() {
		b := written(v.write)
		for n := range min(len(b), 300) {
			r := NewReader(b[:n])
			v.same(r)
			expectBad(t, v.name, r)
		}
	}
	for _, read := range []func(r *Reader){
		func(r *Reader) { r.Count(9) }, func(r *Reader) { r.Whole() }, func(r *Reader) { r.Frac() }, func(r *Reader) { r.Text(9) }, func(r *Reader) { r.Bool() },
	} {
		r := NewReader(nil)
		if r.Bad() || r.Left() != 0 {
			t.Error("at first")
		}
		read(r)
		expectBad(t, "nothing", r)
	}
}

// TestReadLongClaims claims more bytes than there are, up to all of 2^62.
func TestReadLongClaims(t *testing.T) {
	for _, n := range counts() {
		if n < 100 {
			continue
		}
		claim := append(binary.AppendUvarint(nil, uint64(n)), 1, 2, 3)
		for _, read := range []func(r *Reader){func(r *Reader) { r.Whole() }, func(r *Reader) { r.Frac() }, func(r *Reader) { r.Text(math.MaxInt) }} {
			r := NewReader(claim)
			read(r)
			expectBad(t, "a long claim", r)
		}
		r := NewReader(append([]byte{2, 1}, claim...))
		r.Frac()
		expectBad(t, "a long denominator", r)
	}
}

func TestReadMost(t *testing.T) {
	for _, n := range counts() {
		if n > 1<<62 {
			continue
		}
		b := binary.AppendUvarint(nil, uint64(n))
		for _, most := range []int{n, n + 1, 1 << 62, math.MaxInt} {
			if r := NewReader(b); r.Count(most) != n || r.Bad() || r.Left() != 0 {
				t.Error(n, most)
			}
		}
		r := NewReader(b)
		r.Count(n - 1)
		expectBad(t, "a Count above most", r)
	}
	for _, s := range texts() {
		b := written(func(w *Writer) { w.Text(s) })
		for _, most := range []int{len(s), len(s) + 1, math.MaxInt} {
			if r := NewReader(b); r.Text(most) != s || r.Bad() || r.Left() != 0 {
				t.Error(len(s), most)
			}
		}
		r := NewReader(b)
		r.Text(len(s) - 1)
		expectBad(t, "a Text above most", r)
	}
}

// TestReadersKeepNoArguments changes the bytes after they were given.
func TestReadersKeepNoArguments(t *testing.T) {
	b := written(func(w *Writer) { w.Text("text"); w.Whole(whole.Of(1 << 40)); w.Text("more") })
	given := bytes.Clone(b)
	r := NewReader(b)
	first := r.Text(4)
	if !bytes.Equal(b, given) {
		t.Error("the argument is another one")
	}
	for i := range b {
		b[i] = 0xff
	}
	if a, last := r.Whole(), r.Text(4); first != "text" || a.Cmp(whole.Of(1<<40)) != 0 || last != "more" || r.Bad() {
		t.Error(first, a.Text(), last, r.Bad())
	}
}

func TestReadersStandAlone(t *testing.T) {
	b := []byte{1, 'a', 1, 'b'}
	first, second := NewReader(b), NewReader(b)
	first.Text(1)
	second.Bool()
	second.Text(0)
	if first.Left() != 2 || first.Bad() || !second.Bad() || first.Text(1) != "b" {
		t.Error(first.Left(), first.Bad(), second.Bad())
	}
}

// 4.4

func TestEachValueIsReadBack(t *testing.T) {
	for _, v := range values() {
		b := written(v.write)
		r := NewReader(append(b, 5))
		if !v.same(r) || r.Bad() || r.Left() != 1 || r.Count(5) != 5 {
			t.Error(v.name, r.Bad(), r.Left())
		}
	}
}

// TestValuesAreReadBackInTurn writes values of all kinds one behind the other.
func TestValuesAreReadBackInTurn(t *testing.T) {
	list := values()
	random := rand.New(rand.NewSource(2))
	random.Shuffle(len(list), func(i, j int) { list[i], list[j] = list[j], list[i] })
	w := NewWriter()
	left := []int{0}
	for _, v := range list {
		v.write(w)
		left = append(left, len(w.Bytes()))
	}
	all := left[len(list)]
	r := NewReader(w.Bytes())
	for i, v := range list {
		if r.Left() != all-left[i] || !v.same(r) || r.Bad() {
			t.Fatal(i, v.name, r.Left(), r.Bad())
		}
	}
	if r.Left() != 0 || r.Bad() {
		t.Error(r.Left(), r.Bad())
	}
	r.Bool()
	expectBad(t, "the end", r)
}

// readers read a value of each kind and write it again.
func readers() map[string]func(r *Reader, w *Writer) {
	return map[string]func(r *Reader, w *Writer){
		"count": func(r *Reader, w *Writer) { w.Count(r.Count(math.MaxInt)) },
		"whole": func(r *Reader, w *Writer) { w.Whole(r.Whole()) },
		"frac":  func(r *Reader, w *Writer) { w.Frac(r.Frac()) },
		"text":  func(r *Reader, w *Writer) { w.Text(r.Text(math.MaxInt)) },
		"bool":  func(r *Reader, w *Writer) { w.Bool(r.Bool()) },
	}
}

// expectOneEncoding checks that whatever is read would be written in the same
// bytes, so that no other bytes are taken for the same value.
func expectOneEncoding(t *testing.T, b []byte) {
	t.Helper()
	for name, copyValue := range readers() {
		r, w := NewReader(b), NewWriter()
		copyValue(r, w)
		if r.Bad() {
			expectBad(t, name, r)
			continue
		}
		if n := len(b) - r.Left(); !bytes.Equal(w.Bytes(), b[:n]) {
			t.Fatal(name, b[:n], w.Bytes())
		}
	}
}

// fill calls visit with all ways to fill b, from a place on, with telling bytes.
func fill(b []byte, from int, visit func(b []byte)) {
	if from == len(b) {
		visit(b)
		return
	}
	for _, c := range []byte{0, 1, 2, 3, 4, 6, 0x7f, 0x80, 0x81, 0xff} {
		b[from] = c
		fill(b, from+1, visit)
	}
}

// TestEachValueHasOneEncoding reads all bytes of length 2, those of lengths 3
// to 5 that consist of telling ones, and some longer ones.
func TestEachValueHasOneEncoding(t *testing.T) {
	for i := range 1 << 16 {
		expectOneEncoding(t, []byte{byte(i), byte(i >> 8)})
	}
	for size := 3; size <= 5; size++ {
		fill(make([]byte, size), 0, func(b []byte) { expectOneEncoding(t, b) })
	}
	r := rand.New(rand.NewSource(3))
	for range 20000 {
		b := make([]byte, 1+r.Intn(40))
		r.Read(b)
		if r.Intn(2) == 0 {
			b[0] = byte(r.Intn(20))
		}
		expectOneEncoding(t, b)
	}
}

func TestDifferentValuesAreWrittenDifferently(t *testing.T) {
	seen := map[string]string{}
	for _, a := range slices.Concat(fracs(), []frac.Q{frac.Of(3), frac.Of(-3)}) {
		b := string(written(func(w *Writer) { w.Frac(a) }))
		if other, is := seen[b]; is && other != a.Text() {
			t.Error(other, a.Text())
		}
		seen[b] = a.Text()
	}
	half, _ := frac.Parse("0.50")
	other, _ := frac.Make(whole.From(true, nat.Of(7).Shift(90)), whole.From(true, nat.Of(7).Shift(91)))
	if a, b := written(func(w *Writer) { w.Frac(half) }), written(func(w *Writer) { w.Frac(other) }); !bytes.Equal(a, b) {
		t.Error(a, b)
	}
}

func TestLongValuesAreReadBack(t *testing.T) {
	long := nat.Of(0xabcdef).Shift(1 << 16).Shift(1 << 16)
	for _, v := range []value{
		wholeValue(whole.From(true, long)), textValue(strings.Repeat("long", 1<<18)),
		fracValue(func() frac.Q {
			q, _ := frac.Make(whole.From(true, long.Add(nat.Of(1))), whole.From(false, long))
			return q
		}()),
	} {
		r := NewReader(written(v.write))
		if !v.same(r) || r.Bad() || r.Left() != 0 {
			t.Error(v.name[:9], r.Bad(), r.Left())
		}
	}
}
