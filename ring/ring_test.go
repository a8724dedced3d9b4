package ring

import (
	"testing"

	"signet/api"
)

func TestIsNumberAtTheEdges(t *testing.T) {
	for r, want := range map[int]bool{-1: false, 0: true, 1: true, 768: true, 769: false, 1 << 62: false, -1 << 63: false} {
		if IsNumber(r) != want {
			t.Errorf("P4: IsNumber(%d) = %v", r, !want)
		}
	}
}

func TestIsPolyLooksAtEachCoefficient(t *testing.T) {
	for i := range api.Degree {
		for _, wrong := range []int{-1, 769} {
			var p api.Poly
			p[i] = wrong
			if IsPoly(p) {
				t.Errorf("P4: %v is taken for a polynomial", p)
			}
		}
	}
	if !IsPoly(api.Poly{}) || !IsPoly(api.Poly{768, 768, 768, 768, 768, 768, 768, 768}) {
		t.Error("P4: a polynomial is refused")
	}
}

func TestReduce(t *testing.T) {
	got := Reduce(api.Poly{0, -1, 768, 769, 770, -769, -770, 1538})
	if want := (api.Poly{0, 768, 768, 0, 1, 0, 768, 0}); got != want {
		t.Errorf("P4: Reduce: %v, want %v", got, want)
	}
}

// Of each number there is one way to be 96 times a high part plus a low part, but for the fold at the end; so that way is asked for, not made again.
func TestPartsOfAllNumbers(t *testing.T) {
	for r := range api.Q {
		high, low := Parts(r)
		folded := high == 0 && low < 0
		switch {
		case high < 0 || high > 7:
			t.Errorf("P4: Parts(%d): the high part is %d", r, high)
		case folded && (low != r-api.Q || r <= 720):
			t.Errorf("P4: Parts(%d): %d, %d", r, high, low)
		case !folded && (96*high+low != r || low < -47 || low > 48):
			t.Errorf("P4: Parts(%d): %d, %d", r, high, low)
		}
	}
}
