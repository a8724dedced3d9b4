package draw

import (
	"testing"

	"signet/api"
	"signet/digest"
	"signet/ring"
)

func TestChallengeHasTwoSigns(t *testing.T) {
	seen := map[[2]int]int{}
	for n := range 5000 {
		c := Challenge([]byte{0, 0, 0, 0, 0, 0, byte(n >> 8), byte(n)})
		count := 0
		for i, x := range c {
			switch x {
			case 1, -1:
				count++
				seen[[2]int{i, x}]++
			case 0:
			default:
				t.Fatalf("P4: the challenge %d: %v", n, c)
			}
		}
		if count != 2 {
			t.Fatalf("P4: the challenge %d: %v", n, c)
		}
	}
	if len(seen) != 2*api.Degree {
		t.Errorf("P4: of the %d places and signs only %d come", 2*api.Degree, len(seen))
	}
}

// The numbers that are written out in these tests were worked out from the document's words by another program.

func TestMatrix(t *testing.T) {
	want := ring.Matrix{
		{{511, 66, 594, 265, 428, 400, 232, 523}, {270, 570, 589, 738, 721, 146, 594, 386}},
		{{35, 470, 729, 674, 694, 750, 87, 143}, {314, 72, 100, 86, 183, 253, 589, 721}},
	}
	if got := Matrix([]byte("any rho.")); got != want {
		t.Errorf("P5: the matrix: %v, want %v", got, want)
	}
}

// In these streams 768 comes and is taken, and 769 comes and is left out; in the last one 17 numbers are left out.
func TestMatrixAtTheEdges(t *testing.T) {
	for _, c := range []struct {
		high, low byte
		row, col  int
		want      api.Poly
	}{
		{3, 242, 0, 0, api.Poly{131, 151, 388, 93, 455, 768, 275, 494}},
		{7, 173, 1, 1, api.Poly{743, 128, 694, 244, 733, 768, 563, 375}},
		{20, 126, 1, 0, api.Poly{202, 332, 264, 697, 498, 590, 768, 77}},
		{70, 196, 0, 1, api.Poly{334, 768, 106, 481, 246, 389, 232, 77}},
		{43, 70, 0, 1, api.Poly{342, 111, 599, 604, 195, 270, 214, 504}},
	} {
		if got := Matrix([]byte{0, 0, 0, 0, 0, 0, c.high, c.low})[c.row][c.col]; got != c.want {
			t.Errorf("P5: row %d, column %d of the matrix of %d, %d: %v, want %v", c.row, c.col, c.high, c.low, got, c.want)
		}
	}
}

// In the second of these streams 15 bytes are left out.
func TestSecrets(t *testing.T) {
	s, e := Secrets([]byte{0, 0, 0, 0, 0, 0, 6, 98})
	wantS := ring.Pair{{-1, 0, -1, 0, -1, 1, 1, 0}, {-1, 0, 0, 0, 0, 0, 1, 1}}
	wantE := ring.Pair{{1, -1, -1, 1, -1, -1, -1, -1}, {1, 0, 0, 0, 1, 1, 0, -1}}
	if s != wantS || e != wantE {
		t.Errorf("P5: the secrets: %v and %v, want %v and %v", s, e, wantS, wantE)
	}
}

func TestSearchEnds(t *testing.T) {
	draws := 0
	nothing := func(r *digest.Reader) (int, bool) {
		draws++
		return 5, false
	}
	if got := filled(digest.Of().Stream(), nothing); got != (api.Poly{}) || draws != 8*65536*8 {
		t.Errorf("P1: where nothing fits: %v, after %d draws", got, draws)
	}
}
