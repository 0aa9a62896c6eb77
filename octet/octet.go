// Package octet is layer 1: numbers and texts as bytes.
package octet

import (
	"slices"

	"jalousie/api"
)

// mostText is the greatest length that a text's one length byte can tell.
const mostText = 255

// Num is a number in so many bytes, the highest first; nil unless there are 1 to 8 of them.
func Num(x uint64, size int) []byte {
	if !isSize(size) {
		return nil
	}
	b := make([]byte, size)
	for i := range b {
		b[size-1-i] = byte(x >> (8 * i))
	}
	return b
}

// Text is a text, with its length in a byte ahead; of a longer one the first 255 bytes.
func Text(s string) []byte {
	s = s[:min(len(s), mostText)]
	return append(Num(uint64(len(s)), 1), s...)
}

// isSize tells whether a number may have so many bytes.
func isSize(size int) bool { return 1 <= size && size <= 8 }

// Taker takes numbers and texts from bytes, up to the first error.
type Taker struct {
	rest []byte
	err  api.Errno
}

// Take is a Taker of bytes.
func Take(b []byte) *Taker {
	// A copy, for the caller may change b later.
	return &Taker{rest: slices.Clone(b)}
}

// Num takes a number of so many bytes.
func (t *Taker) Num(size int) uint64 {
	if !isSize(size) {
		t.fail(api.ErrArg)
		return 0
	}
	return taken(t, size, func(b []byte) uint64 {
		var x uint64
		for _, c := range b {
			x = x<<8 | uint64(c)
		}
		return x
	})
}

// Text takes a text.
func (t *Taker) Text() string {
	// If there is no length byte, size is 0 and the error of Num stands.
	size := int(t.Num(1))
	return taken(t, size, func(b []byte) string { return string(b) })
}

// Rest takes all that is left.
func (t *Taker) Rest() []byte {
	if t == nil {
		return nil
	}
	// A copy, for two copies of one Taker may take the same bytes.
	return taken(t, len(t.rest), func(b []byte) []byte { return slices.Clone(b) })
}

// Err is what went wrong first.
func (t *Taker) Err() api.Errno {
	if t == nil {
		return api.ErrArg
	}
	return t.err
}

// Done is that, or that something is left.
func (t *Taker) Done() api.Errno {
	if e := t.Err(); e != api.OK {
		return e
	}
	if len(t.rest) > 0 {
		return api.ErrForm
	}
	return api.OK
}

// fail keeps an error, unless there is one already, as a nil Taker always has.
func (t *Taker) fail(e api.Errno) {
	if t.Err() == api.OK {
		t.err = e
	}
}

// taken consumes so many bytes, and is what value makes of them; with an error it is V's zero value and consumes none.
func taken[V any](t *Taker, size int, value func(b []byte) V) V {
	var none V
	if t.Err() != api.OK {
		return none
	}
	if size > len(t.rest) {
		t.fail(api.ErrShort)
		return none
	}
	b := t.rest[:size]
	t.rest = t.rest[size:]
	return value(b)
}
