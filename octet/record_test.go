package octet

import (
	"bytes"
	"encoding/binary"
	"hash/fnv"
	"math"
	"math/rand"
	"slices"
	"testing"

	"abaculus/api"
)

func hash(b []byte) uint64 {
	h := fnv.New64a()
	h.Write(b)
	return h.Sum64()
}

// layRecord is what 4.3 says of a record.
func layRecord(kind byte, body []byte) []byte {
	b := append(binary.AppendUvarint([]byte{kind}, uint64(len(body))), body...)
	return binary.BigEndian.AppendUint64(b, hash(b))
}

func bodies() [][]byte {
	list := [][]byte{nil, {0}, {255}, []byte("body")}
	r := rand.New(rand.NewSource(4))
	for _, n := range []int{2, 9, 126, 127, 128, 129, 300, 20000} {
		b := make([]byte, n)
		r.Read(b)
		list = append(list, b, make([]byte, n))
	}
	return list
}

func mustSeal(t *testing.T, kind int, body []byte) []byte {
	t.Helper()
	b, e := Seal(kind, body)
	if e != api.OK {
		t.Fatal("Seal", kind, len(body), e)
	}
	return b
}

func expectNext(t *testing.T, b []byte, kind int, body []byte, size int) {
	t.Helper()
	gotKind, gotBody, gotSize, e := Next(b)
	if gotKind != kind || !bytes.Equal(gotBody, body) || gotSize != size || e != api.OK {
		t.Fatal("Next", gotKind, len(gotBody), gotSize, e)
	}
	expectExact(t, "the body", gotBody)
}

// expectNextRefuses checks the error, and that all else is a zero value.
func expectNextRefuses(t *testing.T, b []byte, want api.Errno) {
	t.Helper()
	if kind, body, size, e := Next(b); e != want || kind != 0 || len(body) != 0 || size != 0 {
		t.Error("Next", b[:min(len(b), 20)], kind, len(body), size, e, want)
	}
}

// 4.3

func TestSum(t *testing.T) {
	for _, x := range []struct {
		s    string
		want uint64
	}{{"", 14695981039346656037}, {"a", 0xaf63dc4c8601ec8c}, {"foobar", 0x85944171f73967e8}} {
		if got := Sum([]byte(x.s)); got != x.want {
			t.Errorf("%q: %x", x.s, got)
		}
	}
	for _, b := range bodies() {
		if got := Sum(b); got != hash(b) {
			t.Errorf("%d bytes: %x", len(b), got)
		}
	}
}

func TestSeal(t *testing.T) {
	for _, body := range bodies() {
		for _, kind := range []int{1, 2, 9, 127, 128, 255} {
			b := mustSeal(t, kind, body)
			expectExact(t, "a record", b)
			if want := layRecord(byte(kind), body); !bytes.Equal(b, want) {
				t.Fatal(kind, len(body), b[:min(len(b), 20)])
			}
		}
	}
}

func TestSealRefuses(t *testing.T) {
	for _, x := range []struct {
		kind, size int
		want       api.Errno
	}{
		{0, 0, api.ErrArg}, {256, 0, api.ErrArg}, {-1, 0, api.ErrArg}, {257, 3, api.ErrArg}, {math.MinInt, 1, api.ErrArg}, {math.MaxInt, 1, api.ErrArg},
		{0, api.MaxBytes + 1, api.ErrArg}, {1, api.MaxBytes + 1, api.ErrLong}, {255, api.MaxBytes + 1000, api.ErrLong},
	} {
		if b, e := Seal(x.kind, make([]byte, x.size)); e != x.want || len(b) != 0 {
			t.Error(x, len(b), e)
		}
	}
}

func TestLongestRecord(t *testing.T) {
	body := bytes.Repeat([]byte("long"), api.MaxBytes/4)
	b := mustSeal(t, 7, body)
	expectNext(t, b, 7, body, 1+4+api.MaxBytes+8)
	expectNextRefuses(t, layRecord(7, append(body, 1)), api.ErrLong)
}

func TestRecordsShareNoMemory(t *testing.T) {
	body := []byte("body")
	b := mustSeal(t, 9, body)
	if string(body) != "body" {
		t.Error("Seal changes its argument", body)
	}
	body[0] = 'B'
	kept := bytes.Clone(b)
	_, read, size, _ := Next(b)
	read[0] = 'X'
	if !bytes.Equal(b, kept) {
		t.Error("the body shares memory with the record", b)
	}
	clear(b)
	if string(read) != "Xody" || size != len(b) {
		t.Error(read, size)
	}
}

func TestNextOfSeveral(t *testing.T) {
	var all []byte
	for i, body := range bodies() {
		all = append(all, mustSeal(t, 1+i, body)...)
	}
	for i, body := range bodies() {
		size := len(layRecord(1, body))
		expectNext(t, all, 1+i, body, size)
		all = all[size:]
	}
	expectNextRefuses(t, all, api.ErrShort)
}

// TestNextRefuses has for each check bytes that also fail in what is checked
// later.
func TestNextRefuses(t *testing.T) {
	zeros := func(n int, more ...byte) []byte { return append(make([]byte, n), more...) }
	repeated := func(c byte, n int, last ...byte) []byte {
		return append(append([]byte{1}, bytes.Repeat([]byte{c}, n)...), last...)
	}
	claimed := func(n uint64, rest ...byte) []byte { return append(binary.AppendUvarint([]byte{1}, n), rest...) }
	for _, x := range []struct {
		b    []byte
		want api.Errno
	}{
		{nil, api.ErrShort},
		{[]byte{}, api.ErrShort},

		{[]byte{0}, api.ErrForm},
		{[]byte{0, 0x80}, api.ErrForm},
		{layRecord(0, []byte("body")), api.ErrForm},

		{[]byte{1}, api.ErrShort},
		{[]byte{255, 0x80}, api.ErrShort},
		{repeated(0x80, 8), api.ErrShort},
		{repeated(0xff, 9), api.ErrShort},
		{repeated(0xff, 100), api.ErrShort},

		{repeated(0x80, 1, 0), api.ErrForm},
		{repeated(0x84, 1, zeros(30)...), api.ErrForm},
		{repeated(0xff, 4, 0), api.ErrForm},
		{repeated(0xff, 9, 0), api.ErrForm},
		{repeated(0x80, 100, 0), api.ErrForm},

		{claimed(api.MaxBytes + 1), api.ErrLong},
		{claimed(1 << 40), api.ErrLong},
		{claimed(1 << 62), api.ErrLong},
		{claimed(1<<62+1, zeros(40)...), api.ErrLong},
		{claimed(math.MaxInt64), api.ErrLong},
		{claimed(1 << 63), api.ErrLong},
		{claimed(math.MaxUint64), api.ErrLong},
		{repeated(0x80, 9, 2), api.ErrLong},
		{repeated(0x80, 100, 1), api.ErrLong},

		{claimed(0), api.ErrShort},
		{claimed(0, zeros(7)...), api.ErrShort},
		{claimed(4, zeros(4)...), api.ErrShort},
		{claimed(4, zeros(11)...), api.ErrShort},
		{claimed(api.MaxBytes, zeros(1000)...), api.ErrShort},

		{claimed(0, zeros(8)...), api.ErrSum},
		{claimed(4, zeros(12)...), api.ErrSum},
		{claimed(4, zeros(100)...), api.ErrSum},
	} {
		given := bytes.Clone(x.b)
		expectNextRefuses(t, x.b, x.want)
		if !bytes.Equal(x.b, given) {
			t.Error("Next changes its argument", given)
		}
	}
}

// TestNextOfTheBeginning ends a record early, at each place.
func TestNextOfTheBeginning(t *testing.T) {
	for _, body := range bodies() {
		b := mustSeal(t, 3, body)
		for n := range min(len(b), 200) {
			expectNextRefuses(t, b[:n], api.ErrShort)
		}
		expectNextRefuses(t, b[:len(b)-1], api.ErrShort)
	}
}

// TestSumStandsBigEndian turns the bytes of the sum round.
func TestSumStandsBigEndian(t *testing.T) {
	b := mustSeal(t, 3, []byte("body"))
	slices.Reverse(b[len(b)-8:])
	expectNextRefuses(t, b, api.ErrSum)
}

// 4.4

func TestEachRecordIsReadBack(t *testing.T) {
	for _, body := range bodies() {
		for kind := 1; kind <= 255; kind++ {
			b := mustSeal(t, kind, body)
			expectNext(t, b, kind, body, len(b))
			expectNext(t, append(b, 1, 2, 3), kind, body, len(b))
		}
	}
}

// 4.5

// TestChangedByte changes each byte of records to each other byte, or for a
// long record to some.
func TestChangedByte(t *testing.T) {
	for _, body := range bodies() {
		b := mustSeal(t, 9, body)
		start, end := len(b)-8-len(body), len(b)-8
		for i := range b {
			for change := 1; change < 256; change++ {
				if len(b) > 400 && change&(change-1) != 0 || len(b) > 4000 && i > 20 && i < end && i%500 != 0 {
					continue
				}
				expectChangeFound(t, b, i, byte(change), i >= start && i < end)
			}
		}
	}
}

// expectChangeFound changes byte i of a record, alone and before other bytes.
func expectChangeFound(t *testing.T, b []byte, i int, change byte, inBody bool) {
	t.Helper()
	for _, rest := range [][]byte{nil, b, bytes.Repeat([]byte{7}, 300)} {
		changed := append(bytes.Clone(b), rest...)
		changed[i] ^= change
		_, _, size, e := Next(changed)
		if e == api.OK && size == len(b) {
			t.Fatal("not found", len(b), i, change)
		}
		if inBody && e != api.ErrSum {
			t.Fatal("in the body", len(b), i, change, e)
		}
	}
}
