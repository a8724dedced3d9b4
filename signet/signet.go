// Package signet: signatures over small lattices, tried till one may be shown: see DOC.md.
package signet

import (
	"signet/api"
	"signet/digest"
	"signet/draw"
	"signet/keys"
	"signet/ring"
	"signet/shown"
	"signet/tries"
)

const signMark = 5 // the byte that sets the digest of which masks are drawn apart from others

// Digest is the digest of bytes (P3).
func Digest(b []byte) []byte {
	sum := digest.Of(b...).Sum()
	return sum[:]
}

// Stream is the beginning of a stream (P3).
func Stream(b []byte, n int) ([]byte, api.Errno) {
	if n < 0 || n > api.MaxStream {
		return nil, api.ErrArg
	}
	r := digest.Of(b...).Stream()
	out := make([]byte, n)
	for i := range out {
		out[i] = r.Next()
	}
	return out, api.OK
}

// Mul is a product (P4).
func Mul(a api.Poly, b api.Poly) (api.Poly, api.Errno) {
	if !ring.IsPoly(a) || !ring.IsPoly(b) {
		return api.Poly{}, api.ErrArg
	}
	return ring.Reduce(ring.Product(a, b)), api.OK
}

// Parts is the high and the low part of a number (P4).
func Parts(r int) (int, int, api.Errno) {
	if !ring.IsNumber(r) {
		return 0, 0, api.ErrArg
	}
	high, low := ring.Parts(r)
	return high, low, api.OK
}

// Challenge is the challenge of eight bytes (P4).
func Challenge(tilde []byte) (api.Poly, api.Errno) {
	if len(tilde) != api.DigestBytes {
		return api.Poly{}, api.ErrArg
	}
	return ring.Reduce(draw.Challenge(tilde)), api.OK
}

// Keys makes the keys of a seed (P5).
func Keys(seed []byte) ([]byte, []byte, api.Errno) {
	if len(seed) != api.SeedBytes {
		return nil, nil, api.ErrSeed
	}
	key := keys.Make(seed)
	return key.Public.Bytes(), key.Bytes(), api.OK
}

// Try signs with the masks of a tape (P6).
func Try(secret []byte, text []byte, tape [][]byte) ([]byte, int, api.Errno) {
	key, e := signer(secret, text)
	if e != api.OK {
		return nil, 0, e
	}
	masks, ok := tries.ReadTape(tape)
	if !ok {
		return nil, 0, api.ErrTape
	}
	return tries.Loop{Key: key, Text: text, Next: tries.Given(masks)}.Run()
}

// Sign signs (P7).
func Sign(secret []byte, text []byte, salt []byte) ([]byte, api.Errno) {
	key, e := signer(secret, text)
	if e != api.OK {
		return nil, e
	}
	if len(salt) != api.SeedBytes {
		return nil, api.ErrSeed
	}
	seed := digest.Of(signMark).Add(secret...).Add(salt...).Add(text...).Sum()
	signature, _, e := tries.Loop{Key: key, Text: text, Next: tries.Drawn(digest.Of(seed[:]...))}.Run()
	return signature, e
}

// signer reads what Try and Sign have in common, in the order of their errors.
func signer(secret []byte, text []byte) (keys.Secret, api.Errno) {
	key, ok := keys.ReadSecret(secret)
	if !ok {
		return keys.Secret{}, api.ErrKey
	}
	if len(text) > api.MaxText {
		return keys.Secret{}, api.ErrArg
	}
	return key, api.OK
}

// Verify checks a signature (P8).
func Verify(public []byte, text []byte, signature []byte) (bool, api.Errno) {
	key, ok := keys.ReadPublic(public)
	if !ok {
		return false, api.ErrKey
	}
	if len(text) > api.MaxText {
		return false, api.ErrArg
	}
	given, fine := shown.Read(signature)
	return fine && given.Holds(key, text), api.OK
}
