package ring

import "signet/api"

// Pair is two polynomials: what a matrix is multiplied by, and what comes of that.
type Pair [2]api.Poly

// Matrix is two rows of two polynomials.
type Matrix [2]Pair

// Times is the matrix times v, modulo Q. It is exact where Product is: for coefficients from -Q to Q.
func (m Matrix) Times(v Pair) Pair {
	var out Pair
	for r, row := range m {
		for c, p := range row {
			out[r] = plus(out[r], Product(p, v[c]), 1)
		}
	}
	return out.Reduce()
}

// Plus is the sum, not taken modulo Q.
func (v Pair) Plus(w Pair) Pair {
	return Pair{plus(v[0], w[0], 1), plus(v[1], w[1], 1)}
}

// Minus is the difference, not taken modulo Q.
func (v Pair) Minus(w Pair) Pair {
	return Pair{plus(v[0], w[0], -1), plus(v[1], w[1], -1)}
}

// By is each of the two times c, not taken modulo Q.
func (v Pair) By(c api.Poly) Pair {
	return Pair{Product(v[0], c), Product(v[1], c)}
}

// Reduce takes each coefficient modulo Q.
func (v Pair) Reduce() Pair {
	return Pair{Reduce(v[0]), Reduce(v[1])}
}

// Within tells whether all coefficients are between -bound and bound, these two not among them.
func (v Pair) Within(bound int) bool {
	for _, p := range v {
		for _, x := range p {
			if x <= -bound || x >= bound {
				return false
			}
		}
	}
	return true
}

// plus is a and sign times b.
func plus(a api.Poly, b api.Poly, sign int) api.Poly {
	for i, x := range b {
		a[i] += sign * x
	}
	return a
}
