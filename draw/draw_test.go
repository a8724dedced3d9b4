package draw

import (
	"testing"

	"signet/api"
)

func TestChallengeHasTwoSigns(t *testing.T) {
	seen := map[[2]int]int{}
	for n := range 5000 {
		c := Challenge([]byte{0, 0, 0, 0, 0, 0, byte(n >> 8), byte(n)})
		count := 0
		for i, x := range c {
			switch x {
			case 1, -1:
				count++
				seen[[2]int{i, x}]++
			case 0:
			default:
				t.Fatalf("P4: the challenge %d: %v", n, c)
			}
		}
		if count != 2 {
			t.Fatalf("P4: the challenge %d: %v", n, c)
		}
	}
	if len(seen) != 2*api.Degree {
		t.Errorf("P4: of the %d places and signs only %d come", 2*api.Degree, len(seen))
	}
}
