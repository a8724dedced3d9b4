// Package tries: the loop that tries one mask after the other, and the masks.
package tries

import (
	"signet/api"
	"signet/draw"
	"signet/keys"
	"signet/ring"
	"signet/shown"
)

// Loop tries masks, till the try of one does not fail. Where the masks come from is not its business.
type Loop struct {
	Key  keys.Secret
	Text []byte
	Next func() (mask ring.Pair, more bool)
}

// Run is the first signature that may be shown, and the number of its mask; ErrNone, if the masks end ahead of it.
func (l Loop) Run() ([]byte, int, api.Errno) {
	for number := 0; ; number++ {
		mask, more := l.Next()
		if !more {
			return nil, 0, api.ErrNone
		}
		if signature, fine := l.one(mask); fine {
			return signature, number, api.OK
		}
	}
}

// one is a single try.
func (l Loop) one(y ring.Pair) (signature []byte, fine bool) {
	w := l.Key.Matrix.Times(y)
	tilde := l.Key.Tilde(w, l.Text)
	c := draw.Challenge(tilde[:])
	made := shown.Signature{Tilde: tilde, Z: y.Plus(l.Key.S.By(c))}
	if !made.Fine() {
		return nil, false
	}
	rest := w.Minus(l.Key.E.By(c)).Reduce()
	if !lows(rest).Within(api.MaxLow) {
		return nil, false
	}
	return made.Bytes(), true
}

// lows are the low parts.
func lows(v ring.Pair) ring.Pair {
	for k, p := range v {
		for i, r := range p {
			_, v[k][i] = ring.Parts(r)
		}
	}
	return v
}
