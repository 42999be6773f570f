// Package field reads and writes integers in byte slices, and reckons with sizes: see shared/doc/01-field.md.
package field

import "swatch/api"

// mostSize is the greatest size that the promises speak of.
const mostSize = 1<<31 - 1

// mostBytes is how many bytes an integer may have.
const mostBytes = 4

// Get is the unsigned integer in so many bytes at an offset; big: the highest byte first.
func Get(b []byte, at, bytes int, big bool) (int, api.Errno) {
	if e := checkInteger(b, at, bytes); e != api.OK {
		return 0, e
	}
	n := 0
	for i, v := range span(b, at, bytes) {
		n |= int(v) << shift(i, bytes, big)
	}
	return n, api.OK
}

// Put is a copy of b with n in so many bytes at an offset; big: the highest byte first.
func Put(b []byte, at, bytes int, big bool, n int) ([]byte, api.Errno) {
	if e := checkInteger(b, at, bytes); e != api.OK {
		return nil, e
	}
	if n < 0 || n>>(8*bytes) != 0 {
		return nil, api.ErrOver
	}
	c := clone(b)
	p := span(c, at, bytes)
	for i := range p {
		p[i] = byte(n >> shift(i, bytes, big))
	}
	return c, api.OK
}

// Sum is a + b, if it is a size.
func Sum(a, b int) (int, api.Errno) {
	if a < 0 || b < 0 {
		return 0, api.ErrArg
	}
	// The bound is asked of one argument, since a + b itself may wrap round.
	if a > mostSize-b {
		return 0, api.ErrOver
	}
	return a + b, api.OK
}

// Times is a * b, if it is a size.
func Times(a, b int) (int, api.Errno) {
	if a < 0 || b < 0 {
		return 0, api.ErrArg
	}
	// A quotient is asked, since a * b itself may wrap round.
	if a > 0 && b > mostSize/a {
		return 0, api.ErrOver
	}
	return a * b, api.OK
}

// Part is a copy of so many bytes at an offset.
func Part(b []byte, at, bytes int) ([]byte, api.Errno) {
	if at < 0 || bytes < 0 {
		return nil, api.ErrArg
	}
	if !holds(b, at, bytes) {
		return nil, api.ErrShort
	}
	return clone(span(b, at, bytes)), api.OK
}

// checkInteger tells whether b has an integer of so many bytes at an offset.
func checkInteger(b []byte, at, bytes int) api.Errno {
	if bytes < 1 || bytes > mostBytes || at < 0 {
		return api.ErrArg
	}
	if !holds(b, at, bytes) {
		return api.ErrShort
	}
	return api.OK
}

// holds tells whether b has so many bytes from an offset on; neither is negative.
// It subtracts, since at + bytes may wrap round.
func holds(b []byte, at, bytes int) bool {
	return len(b)-at >= bytes
}

// span is a range of b that cannot grow into the bytes behind it.
func span(b []byte, at, bytes int) []byte {
	end := at + bytes
	return b[at:end:end]
}

// clone has a capacity of just its length, so that an answer's capacity tells nothing of b's.
func clone(b []byte) []byte {
	c := make([]byte, len(b))
	copy(c, b)
	return c
}

// shift is how far up byte i of an integer stands, in bits.
func shift(i, bytes int, big bool) int {
	if big {
		return 8 * (bytes - 1 - i)
	}
	return 8 * i
}
