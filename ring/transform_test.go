package ring

import (
	"math"
	"testing"

	"signet/api"
)

// byHand multiplies term by term: X to the power 8 is -1.
func byHand(a api.Poly, b api.Poly) api.Poly {
	var p api.Poly
	for i, x := range a {
		for j, y := range b {
			if i+j < api.Degree {
				p[i+j] += x * y
			} else {
				p[i+j-api.Degree] -= x * y
			}
		}
	}
	return p
}

// corner has at each place one of two coefficients, by the bits.
func corner(bits int, zero int, one int) api.Poly {
	var p api.Poly
	for i := range p {
		p[i] = zero
		if bits>>i&1 == 1 {
			p[i] = one
		}
	}
	return p
}

func TestInitFillsThePlaces(t *testing.T) {
	for k, place := range places {
		power := complex(1, 0)
		for range api.Degree {
			power *= place
		}
		if math.Hypot(real(power)+1, imag(power)) > 1e-12 {
			t.Errorf("P4: the place %d to the power 8 is %v, want -1", k, power)
		}
		for other := range k {
			if apart := place - places[other]; math.Hypot(real(apart), imag(apart)) < 0.5 {
				t.Errorf("P4: the places %d and %d are one", k, other)
			}
		}
	}
}

func TestProductOfCorners(t *testing.T) {
	for _, c := range [][2]int{{0, 768}, {-768, 768}, {767, 768}} {
		for i := range 256 {
			for j := range 256 {
				a, b := corner(i, c[0], c[1]), corner(j, c[0], c[1])
				if got, want := Product(a, b), byHand(a, b); got != want {
					t.Fatalf("P4: %v times %v: %v, want %v", a, b, got, want)
				}
			}
		}
	}
}

func TestProductOfPowers(t *testing.T) {
	for i := range api.Degree {
		for j := range api.Degree {
			for x := range api.Q {
				var a, b api.Poly
				a[i], b[j] = x, 768-x
				if got, want := Product(a, b), byHand(a, b); got != want {
					t.Fatalf("P4: %v times %v: %v, want %v", a, b, got, want)
				}
			}
		}
	}
}

// What is rounded must lie so near to a whole number that no machine's way of adding up floats can turn it.
func TestRoundingHasRoomToSpare(t *testing.T) {
	for i := range 256 {
		for j := range 256 {
			a, b := corner(i, -768, 768), corner(j, -768, 768)
			for _, sum := range turnBack(times(turn(a), turn(b))) {
				if off := math.Abs(sum - math.Round(sum)); off > 1e-6 {
					t.Fatalf("P4: %v times %v: %v is off by %v", a, b, sum, off)
				}
			}
		}
	}
}
