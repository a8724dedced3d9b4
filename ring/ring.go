// Package ring: polynomials modulo X^8 + 1, and their coefficients modulo Q.
package ring

import "signet/api"

// IsNumber tells whether r is a number modulo Q, as they are written: from 0 to Q - 1.
func IsNumber(r int) bool {
	return 0 <= r && r < api.Q
}

// IsPoly tells whether all coefficients are numbers modulo Q.
func IsPoly(p api.Poly) bool {
	for _, r := range p {
		if !IsNumber(r) {
			return false
		}
	}
	return true
}

// Reduce takes each coefficient modulo Q.
func Reduce(p api.Poly) api.Poly {
	for i, r := range p {
		p[i] = (r%api.Q + api.Q) % api.Q
	}
	return p
}

// Parts is the high and the low part of a number modulo Q.
func Parts(r int) (high int, low int) {
	low = r % api.Step
	if low > api.Step/2 {
		low -= api.Step
	}
	if r-low == api.Q-1 {
		return 0, low - 1
	}
	return (r - low) / api.Step, low
}
