package octet

import (
	"bytes"

	"abaculus/api"
)

const (
	mostKind = 255
	sumBytes = 8

	// These are the numbers of the 64-bit FNV-1a hash.
	sumStart  = 14695981039346656037
	sumFactor = 1099511628211
)

// Sum returns the 64-bit FNV-1a hash of b.
func Sum(b []byte) uint64 {
	sum := uint64(sumStart)
	for _, c := range b {
		sum = (sum ^ uint64(c)) * sumFactor
	}
	return sum
}

// writtenSum returns the Sum of b in bytes, the most significant one first.
func writtenSum(b []byte) []byte {
	rest := Sum(b)
	written := make([]byte, sumBytes)
	for i := range sumBytes {
		written[sumBytes-1-i] = byte(rest)
		rest >>= 8
	}
	return written
}

// Seal returns a record: a kind of 1 to 255, the body with its length, and the
// Sum of both.
func Seal(kind int, body []byte) ([]byte, api.Errno) {
	if kind < 1 || kind > mostKind {
		return nil, api.ErrArg
	}
	if len(body) > api.MaxBytes {
		return nil, api.ErrLong
	}
	w := NewWriter()
	w.add(byte(kind))
	w.Count(len(body))
	w.add(body...)
	w.add(writtenSum(w.written)...)
	return w.Bytes(), api.OK
}

// Next returns the kind and the body of the record with which b begins, and the
// size of the record in bytes.
func Next(b []byte) (kind int, body []byte, size int, e api.Errno) {
	start, end, e := findBody(b)
	if e != api.OK {
		return 0, nil, 0, e
	}
	size = end + sumBytes
	if len(b) < size {
		return 0, nil, 0, api.ErrShort
	}
	if !bytes.Equal(b[end:size], writtenSum(b[:end])) {
		return 0, nil, 0, api.ErrSum
	}
	return int(b[0]), exactCopy(b[start:end]), size, api.OK
}

// findBody returns where the body of the record with which b begins starts and
// ends, which may be beyond the end of b.
func findBody(b []byte) (start, end int, e api.Errno) {
	if len(b) == 0 {
		return 0, 0, api.ErrShort
	}
	if b[0] == 0 {
		return 0, 0, api.ErrForm
	}
	length, size, e := readCount(b[1:])
	switch {
	case e != api.OK:
		return 0, 0, e
	case length > api.MaxBytes:
		return 0, 0, api.ErrLong
	}
	start = 1 + size
	return start, start + length, api.OK
}
