package ring

import (
	"math"

	"signet/api"
)

// places are the eight complex numbers whose power 8 is -1: there X^8 + 1 is 0, so that values at them are multiplied as polynomials modulo X^8 + 1 are.
var places [api.Degree]complex128

func init() {
	for k := range places {
		sin, cos := math.Sincos(math.Pi * float64(2*k+1) / api.Degree)
		places[k] = complex(cos, sin)
	}
}

// values are those of a polynomial at the places.
type values [api.Degree]complex128

// Product is the product modulo X^8 + 1, its coefficients not taken modulo Q. It is exact for coefficients from -Q to Q: the sums stay below 2^23, far from what a float of 53 bits would round.
func Product(a api.Poly, b api.Poly) api.Poly {
	return rounded(turnBack(times(turn(a), turn(b))))
}

func turn(p api.Poly) values {
	var v values
	for k, place := range places {
		for i := api.Degree - 1; i >= 0; i-- {
			v[k] = v[k]*place + complex(float64(p[i]), 0)
		}
	}
	return v
}

func times(a values, b values) values {
	for k := range a {
		a[k] *= b[k]
	}
	return a
}

// turnBack makes the coefficients of values. The places are of length 1, so the conjugate of one undoes it; over all places the other powers add up to nothing.
func turnBack(v values) [api.Degree]float64 {
	var sums [api.Degree]float64
	for k, place := range places {
		back := complex(real(place), -imag(place))
		for i := range sums {
			sums[i] += real(v[k]) / api.Degree
			v[k] *= back
		}
	}
	return sums
}

func rounded(sums [api.Degree]float64) api.Poly {
	var p api.Poly
	for i, sum := range sums {
		p[i] = int(math.Round(sum))
	}
	return p
}
