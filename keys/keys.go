// Package keys: public and secret keys, made of a seed, written as bytes and read from them.
package keys

import (
	"signet/api"
	"signet/digest"
	"signet/draw"
	"signet/ring"
)

// The bytes that set the digests apart from each other.
const (
	rhoMark   = 0
	sigmaMark = 1
	boundMark = 3
)

const secretShift = 1 // what makes a byte of a secret's coefficient

// Public is a public key. The matrix is rho's, kept beside it, as it is drawn once and used often.
type Public struct {
	Rho    [api.DigestBytes]byte
	Matrix ring.Matrix
	T      ring.Pair
}

// Secret is a secret key, with its public one.
type Secret struct {
	Public
	S ring.Pair
	E ring.Pair
}

// Make makes the keys of a seed.
func Make(seed []byte) Secret {
	begin := digest.Of(seed...)
	rho := begin.Add(rhoMark).Sum()
	sigma := begin.Add(sigmaMark).Sum()
	matrix := draw.Matrix(rho[:])
	s, e := draw.Secrets(sigma[:])
	return Secret{Public{rho, matrix, product(matrix, s, e)}, s, e}
}

// product is t, as it must be.
func product(matrix ring.Matrix, s ring.Pair, e ring.Pair) ring.Pair {
	return matrix.Times(s).Plus(e).Reduce()
}

// Tilde is the digest that binds the public key, the high parts of w, and a text: a challenge is drawn from it.
func (p Public) Tilde(w ring.Pair, text []byte) [api.DigestBytes]byte {
	bound := digest.Of(boundMark).Add(p.Bytes()...)
	for _, q := range w {
		for _, r := range q {
			high, _ := ring.Parts(r)
			bound = bound.Add(byte(high))
		}
	}
	return bound.Add(text...).Sum()
}
