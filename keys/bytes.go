package keys

import (
	"signet/api"
	"signet/draw"
	"signet/ring"
)

// Bytes are those of the public key, in new memory.
func (p Public) Bytes() []byte {
	out := make([]byte, 0, api.PublicBytes)
	out = append(out, p.Rho[:]...)
	for _, q := range p.T {
		for _, r := range q {
			out = append(out, byte(r>>8), byte(r))
		}
	}
	return out
}

// Bytes are those of the secret key, in new memory.
func (s Secret) Bytes() []byte {
	out := make([]byte, 0, api.SecretBytes)
	out = append(out, s.Public.Bytes()...)
	for _, v := range []ring.Pair{s.S, s.E} {
		for _, p := range v {
			for _, x := range p {
				out = append(out, byte(x+secretShift))
			}
		}
	}
	return out
}

// ReadPublic reads a public key; ok is false, if the bytes are none.
func ReadPublic(b []byte) (key Public, ok bool) {
	if len(b) != api.PublicBytes {
		return Public{}, false
	}
	rho, rest := b[:api.DigestBytes], b[api.DigestBytes:]
	copy(key.Rho[:], rho)
	for k := range key.T {
		for i := range key.T[k] {
			key.T[k][i] = int(rest[0])<<8 + int(rest[1])
			rest = rest[2:]
		}
		if !ring.IsPoly(key.T[k]) {
			return Public{}, false
		}
	}
	key.Matrix = draw.Matrix(rho)
	return key, true
}

// ReadSecret reads a secret key; ok is false, if the bytes are none.
func ReadSecret(b []byte) (key Secret, ok bool) {
	if len(b) != api.SecretBytes {
		return Secret{}, false
	}
	key.Public, ok = ReadPublic(b[:api.PublicBytes])
	if !ok {
		return Secret{}, false
	}
	rest := b[api.PublicBytes:]
	half := len(rest) / 2
	var fineS, fineE bool
	key.S, fineS = readSmall(rest[:half])
	key.E, fineE = readSmall(rest[half:])
	if !fineS || !fineE || product(key.Matrix, key.S, key.E) != key.T {
		return Secret{}, false
	}
	return key, true
}

// readSmall reads coefficients -1, 0 and 1.
func readSmall(b []byte) (v ring.Pair, ok bool) {
	for at, x := range b {
		if x > 2*secretShift {
			return ring.Pair{}, false
		}
		v[at/api.Degree][at%api.Degree] = int(x) - secretShift
	}
	return v, true
}
