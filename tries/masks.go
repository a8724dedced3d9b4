package tries

import (
	"signet/api"
	"signet/digest"
	"signet/ring"
)

// ReadTape reads masks; ok is false, if one is none, or there are too many.
func ReadTape(tape [][]byte) (masks []ring.Pair, ok bool) {
	if len(tape) > api.MaxTape {
		return nil, false
	}
	for _, b := range tape {
		mask, fine := readMask(b)
		if !fine {
			return nil, false
		}
		masks = append(masks, mask)
	}
	return masks, true
}

func readMask(b []byte) (mask ring.Pair, ok bool) {
	if len(b) != api.MaskBytes {
		return ring.Pair{}, false
	}
	for at, x := range b {
		if x > api.MaskGreatest {
			return ring.Pair{}, false
		}
		mask[at/api.Degree][at%api.Degree] = api.MaskMiddle - int(x)
	}
	return mask, true
}

// Given gives the masks of a list, one a call, till there are no more.
func Given(masks []ring.Pair) func() (ring.Pair, bool) {
	at := 0
	return func() (ring.Pair, bool) {
		if at == len(masks) {
			return ring.Pair{}, false
		}
		at++
		return masks[at-1], true
	}
}

// Drawn gives as many masks as a tape may have, each from a stream of the seed and the mask's number; a mask is drawn only when it is asked for.
func Drawn(seed digest.State) func() (ring.Pair, bool) {
	at := 0
	return func() (ring.Pair, bool) {
		if at == api.MaxTape {
			return ring.Pair{}, false
		}
		at++
		return drawMask(seed.Add(byte(at - 1)).Stream()), true
	}
}

func drawMask(r *digest.Reader) ring.Pair {
	var mask ring.Pair
	for k := range mask {
		for i := range mask[k] {
			mask[k][i] = api.MaskMiddle - int(r.Next()%(api.MaskGreatest+1))
		}
	}
	return mask
}
