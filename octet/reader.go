package octet

import (
	"slices"

	"abaculus/api"
	"abaculus/frac"
	"abaculus/nat"
	"abaculus/whole"
)

// Reader reads values from the beginning of the bytes that are left.
type Reader struct {
	left []byte
	bad  bool
}

// NewReader returns a Reader of a copy of b.
func NewReader(b []byte) *Reader {
	return &Reader{left: exactCopy(b)}
}

// fail makes the Reader bad. It takes away the bytes that are left: since no
// value is written in no bytes, nothing can be read any more.
func (r *Reader) fail() {
	r.left, r.bad = nil, true
}

// take returns the next n bytes, for reading only; none if fewer are left.
func (r *Reader) take(n int) []byte {
	if n > len(r.left) {
		r.fail()
		return nil
	}
	taken := r.left[:n:n]
	r.left = r.left[n:]
	return taken
}

// Count reads a count of at most most.
func (r *Reader) Count(most int) int {
	n, size, e := readCount(r.left)
	if e != api.OK || n > most {
		r.fail()
		return 0
	}
	r.take(size)
	return n
}

// readCount returns the Count with which b begins, and its size in bytes. It
// returns ErrShort if the Count does not end within b, ErrForm if it has more
// bytes than necessary, and ErrLong if it is above 2^62.
func readCount(b []byte) (n, size int, e api.Errno) {
	last := slices.IndexFunc(b, isLastGroup)
	switch {
	case last < 0:
		return 0, 0, api.ErrShort
	case last > 0 && b[last] == 0:
		return 0, 0, api.ErrForm
	case last >= mostGroups:
		return 0, 0, api.ErrLong
	}
	size = last + 1
	for _, group := range slices.Backward(b[:size]) {
		n = n<<groupBits | int(group&groupMask)
	}
	if n > mostCount {
		return 0, 0, api.ErrLong
	}
	return n, size, api.OK
}

func isLastGroup(b byte) bool {
	return b&moreFollow == 0
}

// number reads a number of size bytes, the first of which is not 0.
func (r *Reader) number(size int) nat.Nat {
	b := r.take(size)
	if len(b) > 0 && b[0] == 0 {
		r.fail()
		return nat.Nat{}
	}
	return nat.FromBytes(b)
}

// Whole reads an integer.
func (r *Reader) Whole() whole.Int {
	n := r.Count(mostCount)
	size, neg := n/2, n%2 == 1
	if neg && size == 0 {
		r.fail()
	}
	return whole.From(neg, r.number(size))
}

// Frac reads a fraction in lowest terms.
func (r *Reader) Frac() frac.Q {
	num := r.Whole()
	den := r.number(r.Count(mostCount)) // 0 also if the Reader is bad
	a, ok := frac.Make(num, whole.From(false, den))
	if !ok || a.Den().Cmp(den) != 0 {
		r.fail()
		return frac.Q{}
	}
	return a
}

// Text reads a string of at most most bytes.
func (r *Reader) Text(most int) string {
	return string(r.take(r.Count(most)))
}

// Bool reads a byte 1 or 0.
func (r *Reader) Bool() bool {
	b := r.take(1)
	if len(b) > 0 && b[0] > 1 {
		r.fail()
		return false
	}
	return len(b) > 0 && b[0] == 1
}

// Left returns the number of bytes that are left, and 0 if the Reader is bad.
func (r *Reader) Left() int {
	return len(r.left)
}

// Bad reports whether something else than a value was found.
func (r *Reader) Bad() bool {
	return r.bad
}
