// Package shown: signatures as they are shown: written as bytes, read from them, and held against a public key.
package shown

import (
	"signet/api"
	"signet/draw"
	"signet/keys"
	"signet/ring"
)

// Signature is a signature.
type Signature struct {
	Tilde [api.DigestBytes]byte
	Z     ring.Pair
}

// Fine tells whether z may be shown: a greater one would tell of the secret.
func (s Signature) Fine() bool {
	return s.Z.Within(api.MaxZ)
}

// Bytes are those of a fine signature, in new memory.
func (s Signature) Bytes() []byte {
	out := make([]byte, 0, api.SignedBytes)
	out = append(out, s.Tilde[:]...)
	for _, p := range s.Z {
		for _, x := range p {
			out = append(out, byte(x+api.MaskMiddle))
		}
	}
	return out
}

// Read reads a fine signature; ok is false, if the bytes are none.
func Read(b []byte) (s Signature, ok bool) {
	if len(b) != api.SignedBytes {
		return Signature{}, false
	}
	copy(s.Tilde[:], b)
	for at, x := range b[api.DigestBytes:] {
		s.Z[at/api.Degree][at%api.Degree] = int(x) - api.MaskMiddle
	}
	if !s.Fine() {
		return Signature{}, false
	}
	return s, true
}

// Holds tells whether it is a signature of the text. For one that a try made, A z - c t is w - c e, and the bound on the low parts of that lets its high parts be those of w.
func (s Signature) Holds(key keys.Public, text []byte) bool {
	c := draw.Challenge(s.Tilde[:])
	w := key.Matrix.Times(s.Z).Minus(key.T.By(c)).Reduce()
	return key.Tilde(w, text) == s.Tilde
}
