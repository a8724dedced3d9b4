// Package digest: the digest of bytes, and the stream that is drawn from them.
package digest

import "signet/api"

const (
	start  = 14695981039346656037
	factor = 1099511628211
	finish = 11400714819323198485
)

// State is the number that the bytes so far have made. It is a plain value: many ends may follow one beginning, and the beginning is gone through once.
type State uint64

// Of is the state after these bytes.
func Of(b ...byte) State {
	return State(start).Add(b...)
}

// Add is the state after these further bytes.
func (s State) Add(b ...byte) State {
	for _, x := range b {
		s = (s ^ State(x)) * factor
	}
	return s
}

// Sum is the digest of the bytes so far.
func (s State) Sum() [api.DigestBytes]byte {
	s ^= s >> 32
	s *= finish
	s ^= s >> 29
	var sum [api.DigestBytes]byte
	for i := range sum {
		sum[i] = byte(s >> (8 * (api.DigestBytes - 1 - i)))
	}
	return sum
}

// Stream is a reader at the first byte of the stream of the bytes so far.
func (s State) Stream() *Reader {
	return &Reader{state: s, used: api.DigestBytes}
}

// Reader gives the bytes of a stream, one after the other.
type Reader struct {
	state State
	next  uint16 // the number of the block that follows; past the last of two bytes the blocks come again
	block [api.DigestBytes]byte
	used  int
}

// Next is the next byte.
func (r *Reader) Next() byte {
	if r.used == len(r.block) {
		r.block = r.state.Add(byte(r.next>>8), byte(r.next)).Sum()
		r.next++
		r.used = 0
	}
	b := r.block[r.used]
	r.used++
	return b
}
