// Package draw: polynomials that are drawn from streams.
package draw

import (
	"signet/api"
	"signet/digest"
)

const (
	challengeMark = 4 // the byte that sets a challenge's stream apart from the others
	challengeOnes = 2 // how many coefficients are not 0
)

// mostDraws is how many bytes there are in all blocks that two bytes can number. What has not come by then never comes, so each search ends.
const mostDraws = (1 << 16) * api.DigestBytes

// Challenge is the challenge of c-tilde, with coefficients 0, 1 and -1.
func Challenge(tilde []byte) api.Poly {
	r := digest.Of(tilde...).Add(challengeMark).Stream()
	var c api.Poly
	for i := api.Degree - challengeOnes; i < api.Degree; i++ {
		j := placeUpTo(i, r)
		c[i] = c[j]
		c[j] = sign(r)
	}
	return c
}

func placeUpTo(i int, r *digest.Reader) int {
	for range mostDraws {
		if j := int(r.Next() % api.Degree); j <= i {
			return j
		}
	}
	return 0
}

func sign(r *digest.Reader) int {
	if r.Next()%2 == 1 {
		return -1
	}
	return 1
}
