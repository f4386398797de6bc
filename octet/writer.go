package octet

import (
	"abaculus/frac"
	"abaculus/whole"
)

// Writer holds the bytes of the values that were written so far.
type Writer struct {
	written []byte
}

// NewWriter returns a Writer without bytes.
func NewWriter() *Writer {
	return &Writer{}
}

func (w *Writer) add(b ...byte) {
	w.written = append(w.written, b...)
}

// Count writes n, or 0 if n is below 0, in as few bytes as possible.
func (w *Writer) Count(n int) {
	n = max(n, 0)
	for n > groupMask {
		w.add(byte(n&groupMask | moreFollow))
		n >>= groupBits
	}
	w.add(byte(n))
}

// Whole writes the sign and the number of bytes as one Count, then the bytes.
func (w *Writer) Whole(a whole.Int) {
	b := a.Abs().Bytes()
	n := 2 * len(b)
	if a.Sign() < 0 {
		n++
	}
	w.Count(n)
	w.add(b...)
}

// Frac writes the numerator as a Whole, then the denominator without a sign.
func (w *Writer) Frac(a frac.Q) {
	w.Whole(a.Num())
	b := a.Den().Bytes()
	w.Count(len(b))
	w.add(b...)
}

// Text writes the length and the bytes of s.
func (w *Writer) Text(s string) {
	w.Count(len(s))
	w.written = append(w.written, s...)
}

// Bool writes a byte 1 for true and 0 for false.
func (w *Writer) Bool(b bool) {
	if b {
		w.add(1)
	} else {
		w.add(0)
	}
}

// Bytes returns all bytes written so far.
func (w *Writer) Bytes() []byte {
	return exactCopy(w.written)
}
