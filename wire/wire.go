// Package wire reads and writes integers in byte strings, most significant byte first.
package wire

import "backstep/api"

// Append appends the last n bytes of x in two's complement.
func Append(b []byte, n, x int) []byte {
	for shift := 8 * (n - 1); shift >= 0; shift -= 8 {
		b = append(b, byte(x>>shift))
	}
	return b
}

// Reader takes integers and strings from the front of a byte string. It keeps the first error; after an error all results are zero.
type Reader struct {
	Rest []byte
	Err  api.Errno
}

// Fail keeps an error, unless there is one already.
func (r *Reader) Fail(e api.Errno) {
	if r.Err == api.OK {
		r.Err = e
	}
}

// Bytes reads n bytes. The result shares memory with the byte string.
func (r *Reader) Bytes(n int) []byte {
	if n > len(r.Rest) {
		r.Fail(api.ErrEnd)
	}
	if r.Err != api.OK {
		return nil
	}
	b := r.Rest[:n]
	r.Rest = r.Rest[n:]
	return b
}

// Integer reads an integer of n bytes; it is negative only if n is 8.
func (r *Reader) Integer(n int) int {
	x := 0
	for _, c := range r.Bytes(n) {
		x = x<<8 | int(c)
	}
	return x
}

// End reports an error if bytes remain.
func (r *Reader) End() {
	if len(r.Rest) > 0 {
		r.Fail(api.ErrForm)
	}
}
