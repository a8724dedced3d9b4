// Package draw: polynomials that are drawn from streams.
package draw

import (
	"signet/api"
	"signet/digest"
	"signet/ring"
)

// The bytes that set the streams apart from each other.
const (
	matrixMark    = 1
	secretMark    = 2
	challengeMark = 4
)

const (
	numberBound   = 1024 // what two bytes are taken modulo of, ahead of the look whether they are below Q
	secretBound   = 4
	secretValues  = 3 // how many values a secret's coefficient may have
	challengeOnes = 2 // how many coefficients are not 0
)

// mostDraws is how many bytes there are in all blocks that two bytes can number. What has not come by then never comes, so each search ends.
const mostDraws = (1 << 16) * api.DigestBytes

// Matrix is the matrix of rho.
func Matrix(rho []byte) ring.Matrix {
	start := digest.Of(rho...).Add(matrixMark)
	var m ring.Matrix
	for r, row := range m {
		for c := range row {
			m[r][c] = filled(start.Add(byte(r), byte(c)).Stream(), number)
		}
	}
	return m
}

// Secrets are s and e of sigma, with coefficients -1, 0 and 1.
func Secrets(sigma []byte) (s ring.Pair, e ring.Pair) {
	start := digest.Of(sigma...).Add(secretMark)
	for i := range s {
		s[i] = filled(start.Add(byte(i)).Stream(), small)
		e[i] = filled(start.Add(byte(len(s)+i)).Stream(), small)
	}
	return s, e
}

// Challenge is the challenge of c-tilde, with coefficients 0, 1 and -1.
func Challenge(tilde []byte) api.Poly {
	r := digest.Of(tilde...).Add(challengeMark).Stream()
	var c api.Poly
	for i := api.Degree - challengeOnes; i < api.Degree; i++ {
		j := search(r, func(r *digest.Reader) (int, bool) {
			j := int(r.Next() % api.Degree)
			return j, j <= i
		})
		c[i] = c[j]
		c[j] = sign(r)
	}
	return c
}

// filled is a polynomial whose coefficients are drawn one after the other.
func filled(r *digest.Reader, draw func(*digest.Reader) (int, bool)) api.Poly {
	var p api.Poly
	for i := range p {
		p[i] = search(r, draw)
	}
	return p
}

// search is the first draw that fits, or 0, if none of all does.
func search(r *digest.Reader, draw func(*digest.Reader) (int, bool)) int {
	for range mostDraws {
		if x, fits := draw(r); fits {
			return x
		}
	}
	return 0
}

func number(r *digest.Reader) (int, bool) {
	high := int(r.Next())
	low := int(r.Next())
	x := (high<<8 + low) % numberBound
	return x, ring.IsNumber(x)
}

func small(r *digest.Reader) (int, bool) {
	x := int(r.Next() % secretBound)
	return x - 1, x < secretValues
}

func sign(r *digest.Reader) int {
	if r.Next()%2 == 1 {
		return -1
	}
	return 1
}
