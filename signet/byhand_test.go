package signet_test

import (
	"slices"
	"testing"

	"signet/api"
	"signet/signet"
)

// What keys and tries are, worked out slowly from the document's words, of the parts alone.

// joined is a new list of the bytes and lists of bytes.
func joined(parts ...any) []byte {
	var out []byte
	for _, p := range parts {
		switch x := p.(type) {
		case int:
			out = append(out, byte(x))
		case string:
			out = append(out, x...)
		case []byte:
			out = append(out, x...)
		}
	}
	return out
}

func streamOf(parts ...any) []byte {
	s, _ := signet.Stream(joined(parts...), api.MaxStream)
	return s
}

func matrixByHand(rho []byte) [2][2]api.Poly {
	var m [2][2]api.Poly
	for r := range 2 {
		for c := range 2 {
			s := streamOf(rho, 1, r, c)
			var numbers []int
			for at := 0; at < len(s); at += 2 {
				if x := (256*int(s[at]) + int(s[at+1])) % 1024; x < 769 {
					numbers = append(numbers, x)
				}
			}
			copy(m[r][c][:], numbers)
		}
	}
	return m
}

// sumByHand is a m(r, 0) + b m(r, 1) for both r.
func sumByHand(m [2][2]api.Poly, a api.Poly, b api.Poly) [2]api.Poly {
	var out [2]api.Poly
	for r := range 2 {
		x, y := mulByHand(m[r][0], a), mulByHand(m[r][1], b)
		for i := range 8 {
			out[r][i] = (x[i] + y[i]) % 769
		}
	}
	return out
}

// secretByHand is the secret key of rho, and of the bytes of s and e.
func secretByHand(rho []byte, small []byte) []byte {
	p := secretsOf(small)
	t := sumByHand(matrixByHand(rho), p[0], p[1])
	out := joined(rho)
	for r := range 2 {
		for i := range 8 {
			x := (t[r][i] + p[2+r][i]) % 769
			out = append(out, byte(x/256), byte(x%256))
		}
	}
	return append(out, small...)
}

// secretsOf are s and e of their bytes, modulo Q.
func secretsOf(small []byte) [4]api.Poly {
	var p [4]api.Poly
	for at, x := range small {
		p[at/8][at%8] = (int(x) + 768) % 769
	}
	return p
}

func keysByHand(seed []byte) (public []byte, secret []byte) {
	rho, sigma := signet.Digest(joined(seed, 0)), signet.Digest(joined(seed, 1))
	var small []byte
	for i := range 4 {
		s := streamOf(sigma, 2, i)
		fit := slices.DeleteFunc(s, func(x byte) bool { return x%4 == 3 })
		for _, x := range fit[:8] {
			small = append(small, x%4)
		}
	}
	secret = secretByHand(rho, small)
	return slices.Clone(secret[:40]), secret
}

// attempt is what a try comes to.
type attempt struct {
	tilde []byte
	z     []int
	lows  []int // of w - c e
	bare  []int // the low parts of w
}

func centred(r int) int {
	if r >= 385 {
		return r - 769
	}
	return r
}

// tildeByHand is the digest of (3, the public key, the high parts of w, the text).
func tildeByHand(public []byte, w [2]api.Poly, text []byte) []byte {
	bound := joined(3, public)
	for at := range 16 {
		high, _, _ := signet.Parts(w[at/8][at%8])
		bound = append(bound, byte(high))
	}
	return signet.Digest(append(bound, text...))
}

func tryByHand(secret []byte, text []byte, mask []byte) attempt {
	var y [2]api.Poly
	for at, x := range mask {
		y[at/8][at%8] = (64 - int(x) + 769) % 769
	}
	w := sumByHand(matrixByHand(secret[:8]), y[0], y[1])
	var a attempt
	for at := range 16 {
		_, low, _ := signet.Parts(w[at/8][at%8])
		a.bare = append(a.bare, low)
	}
	a.tilde = tildeByHand(secret[:40], w, text)
	c, _ := signet.Challenge(a.tilde)
	p := secretsOf(secret[40:])
	for at := range 16 {
		k, i := at/8, at%8
		a.z = append(a.z, 64-int(mask[at])+centred(mulByHand(c, p[k])[i]))
		_, low, _ := signet.Parts((w[k][i] - mulByHand(c, p[2+k])[i] + 769) % 769)
		a.lows = append(a.lows, low)
	}
	return a
}

// beyond are the numbers that are not between -bound and bound.
func beyond(bound int, numbers []int) []int {
	return slices.DeleteFunc(slices.Clone(numbers), func(x int) bool { return -bound < x && x < bound })
}

func (a attempt) fails() bool {
	return len(beyond(62, a.z)) > 0 || len(beyond(46, a.lows)) > 0
}

// signature is nil, if the try fails.
func (a attempt) signature() []byte {
	if a.fails() {
		return nil
	}
	return a.written()
}

// written is what the signature would be, though the try may fail.
func (a attempt) written() []byte {
	return writtenByHand(a.tilde, a.z)
}

func writtenByHand(tilde []byte, z []int) []byte {
	out := slices.Clone(tilde)
	for _, x := range z {
		out = append(out, byte(x+64))
	}
	return out
}

// commitment is A z - c t.
func commitment(public []byte, z []int, c api.Poly) [2]api.Poly {
	var v [2]api.Poly
	for at, x := range z {
		v[at/8][at%8] = (x + 769) % 769
	}
	w := sumByHand(matrixByHand(public[:8]), v[0], v[1])
	for r := range 2 {
		var t api.Poly
		for i := range 8 {
			at := 8 + 16*r + 2*i
			t[i] = 256*int(public[at]) + int(public[at+1])
		}
		for i, x := range mulByHand(c, t) {
			w[r][i] = (w[r][i] - x + 769) % 769
		}
	}
	return w
}

// verifyByHand is what Verify must answer of a public key and a text that may be.
func verifyByHand(public []byte, text []byte, signature []byte) bool {
	if len(signature) != 24 {
		return false
	}
	var z []int
	for _, x := range signature[8:] {
		z = append(z, int(x)-64)
	}
	c, _ := signet.Challenge(signature[:8])
	w := commitment(public, z, c)
	return len(beyond(62, z)) == 0 && slices.Equal(tildeByHand(public, w, text), signature[:8])
}

// challengesByHand are all 112.
func challengesByHand() []api.Poly {
	var l []api.Poly
	for i := range 8 {
		for j := range i {
			for signs := range 4 {
				var c api.Poly
				c[i], c[j] = 1+767*(signs&1), 1+767*(signs>>1)
				l = append(l, c)
			}
		}
	}
	return l
}

// forged is a text and a signature of it with just this z, of a public key whose secrets nobody knows, or that has none: challenges are so few that some one comes out again. But for the bound on z, it holds.
func forged(t *testing.T, public []byte, z []int) (text []byte, signature []byte) {
	t.Helper()
	for n := range 100 {
		for _, c := range challengesByHand() {
			text := []byte{byte(n)}
			tilde := tildeByHand(public, commitment(public, z, c), text)
			if got, _ := signet.Challenge(tilde); got == c {
				return text, writtenByHand(tilde, z)
			}
		}
	}
	t.Fatalf("no signature was found with z %v", z)
	return nil, nil
}

// maskOf is one of as many masks as are wanted.
func maskOf(n int) []byte {
	mask := streamOf("mask", n>>8, n)[:16]
	for i := range mask {
		mask[i] %= 128
	}
	return slices.Clone(mask)
}

func masksOf(count int) [][]byte {
	var l [][]byte
	for n := range count {
		l = append(l, maskOf(n))
	}
	return l
}

// still is a mask that never fails: y is 0, so z and the low parts are at most 2.
func still() []byte {
	return slices.Repeat([]byte{64}, 16)
}

// loud is a mask that always fails: y is 64 everywhere, and c s at most 2 below it.
func loud() []byte {
	return make([]byte, 16)
}

func secretOf(t *testing.T, seed string) []byte {
	t.Helper()
	_, secret, e := signet.Keys([]byte(seed))
	if e != api.OK {
		t.Fatalf("P5: Keys(%q): %d", seed, e)
	}
	return secret
}
