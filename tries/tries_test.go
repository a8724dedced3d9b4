package tries

import (
	"testing"

	"signet/api"
	"signet/digest"
	"signet/keys"
	"signet/ring"
)

// loud always fails: c s is at most 2 below 64, and 62 is too much.
func loud() ring.Pair {
	var mask ring.Pair
	for k := range mask {
		for i := range mask[k] {
			mask[k][i] = 64
		}
	}
	return mask
}

// A loop takes from any function, and asks for no more masks than it needs: the mask of zeros never fails.
func TestLoopAsksForAsManyMasksAsItNeeds(t *testing.T) {
	for _, fail := range []int{0, 1, 5, 59, 100} {
		asked := 0
		loop := Loop{Key: keys.Make([]byte("abcdefgh")), Next: func() (ring.Pair, bool) {
			asked++
			if asked <= fail {
				return loud(), true
			}
			return ring.Pair{}, true
		}}
		signature, number, e := loop.Run()
		if len(signature) != 24 || number != fail || e != api.OK || asked != fail+1 {
			t.Errorf("P6: the loop: %v, %d, %d, with %d masks, want %d", signature, number, e, asked, fail+1)
		}
	}
}

func TestLoopEndsWithItsMasks(t *testing.T) {
	for _, masks := range [][]ring.Pair{nil, {loud()}, {loud(), loud(), loud()}} {
		loop := Loop{Key: keys.Make([]byte("abcdefgh")), Next: Given(masks)}
		if signature, number, e := loop.Run(); signature != nil || number != 0 || e != api.ErrNone {
			t.Errorf("P6: the loop of %d masks: %v, %d, %d, want nothing and ErrNone", len(masks), signature, number, e)
		}
	}
}

func TestReadTape(t *testing.T) {
	masks, ok := ReadTape([][]byte{{0, 1, 63, 64, 65, 126, 127, 64, 2, 64, 64, 64, 64, 64, 64, 125}})
	want := ring.Pair{{64, 63, 1, 0, -1, -62, -63, 0}, {62, 0, 0, 0, 0, 0, 0, -61}}
	if len(masks) != 1 || masks[0] != want || !ok {
		t.Errorf("P6: the tape is read as %v, %v, want %v", masks, ok, want)
	}
	for _, wrong := range [][][]byte{{nil}, {make([]byte, 15)}, {make([]byte, 16), make([]byte, 17)}, {{15: 128}}, make([][]byte, 61)} {
		if masks, ok := ReadTape(wrong); masks != nil || ok {
			t.Errorf("P6: a tape of %d lists is read as %v, %v", len(wrong), masks, ok)
		}
	}
}

// taken are all masks that a function gives.
func taken(next func() (ring.Pair, bool)) []ring.Pair {
	var masks []ring.Pair
	for {
		mask, more := next()
		if !more {
			return masks
		}
		masks = append(masks, mask)
	}
}

func TestDrawnMasks(t *testing.T) {
	seed := digest.Of(1, 2, 3)
	masks := taken(Drawn(seed))
	if len(masks) != 60 {
		t.Fatalf("P7: %d masks are drawn, want 60", len(masks))
	}
	for k, mask := range masks {
		r := digest.Of(1, 2, 3, byte(k)).Stream()
		for at := range 16 {
			if want := 64 - int(r.Next())%128; mask[at/8][at%8] != want {
				t.Errorf("P7: the mask %d: %v, want %d at %d", k, mask, want, at)
			}
		}
	}
}

// Once there are no more, there are none ever.
func TestMasksStayAtTheirEnd(t *testing.T) {
	for name, next := range map[string]func() (ring.Pair, bool){"given": Given([]ring.Pair{loud(), {}}), "drawn": Drawn(digest.Of())} {
		taken(next)
		for range 300 {
			if mask, more := next(); more || mask != (ring.Pair{}) {
				t.Fatalf("P6: masks, %s, go on behind their end: %v", name, mask)
			}
		}
	}
}
