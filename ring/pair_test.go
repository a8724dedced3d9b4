package ring

import (
	"testing"

	"signet/api"
)

func TestMatrixTimes(t *testing.T) {
	one, x := api.Poly{1}, api.Poly{0, 1}
	for _, c := range []struct {
		m       Matrix
		v, want Pair
	}{
		{Matrix{{one, {}}, {{}, one}}, Pair{{1, 2, 3}, {-4, 5, 64}}, Pair{{1, 2, 3}, {765, 5, 64}}},
		{Matrix{{{}, one}, {{}, {}}}, Pair{{1, 2, 3}, {4, 5}}, Pair{{4, 5}, {}}},
		{Matrix{{{}, {}}, {one, {}}}, Pair{{1, 2, 3}, {4, 5}}, Pair{{}, {1, 2, 3}}},
		{Matrix{{x, {2}}, {{768}, x}}, Pair{{7: 1}, {7: 3}}, Pair{{768, 0, 0, 0, 0, 0, 0, 6}, {766, 0, 0, 0, 0, 0, 0, 768}}},
		{Matrix{{{768}, {768}}, {{}, {}}}, Pair{{768}, {768}}, Pair{{2}, {}}},
	} {
		if got := c.m.Times(c.v); got != c.want {
			t.Errorf("P5: %v times %v: %v, want %v", c.m, c.v, got, c.want)
		}
	}
}

func TestSumsAreNotTakenModuloQ(t *testing.T) {
	v, w := Pair{{700, 1}, {7: -5}}, Pair{{700, -3}, {7: 1}}
	if got := v.Plus(w); got != (Pair{{1400, -2}, {7: -4}}) {
		t.Errorf("P6: the sum: %v", got)
	}
	if got := w.Minus(v); got != (Pair{{0, -4}, {7: 6}}) {
		t.Errorf("P6: the difference: %v", got)
	}
	if got := v.By(api.Poly{0, -1}); got != (Pair{{0, -700, -1}, {-5}}) {
		t.Errorf("P6: the product: %v", got)
	}
	if got := v.Plus(w).Reduce(); got != (Pair{{631, 767}, {7: 765}}) {
		t.Errorf("P6: the sum, modulo Q: %v", got)
	}
	if v != (Pair{{700, 1}, {7: -5}}) || w != (Pair{{700, -3}, {7: 1}}) {
		t.Errorf("P2: %v and %v are left behind", v, w)
	}
}

func TestWithinLooksAtEachCoefficient(t *testing.T) {
	for at := range 16 {
		for x, want := range map[int]bool{-47: false, -46: false, -45: true, 0: true, 45: true, 46: false, 47: false} {
			var v Pair
			v[at/8][at%8] = x
			if v.Within(46) != want {
				t.Errorf("P6: %v is within 46: %v", v, !want)
			}
		}
	}
}
