package keys

import (
	"bytes"
	"testing"

	"signet/ring"
)

func TestWrittenKeysAreReadAgain(t *testing.T) {
	for n := range 200 {
		key := Make([]byte{1, 2, 3, 4, 5, 6, 7, byte(n)})
		if got, ok := ReadSecret(key.Bytes()); got != key || !ok {
			t.Fatalf("P5: a secret key is read as %v, %v, want %v", got, ok, key)
		}
		if got, ok := ReadPublic(key.Public.Bytes()); got != key.Public || !ok {
			t.Fatalf("P5: a public key is read as %v, %v, want %v", got, ok, key.Public)
		}
		if !bytes.Equal(key.Bytes()[:40], key.Public.Bytes()) {
			t.Fatalf("P5: a secret key does not begin with its public one: %v", key.Bytes())
		}
	}
}

// A public key alone may have any t; numbers from Q on make none.
func TestReadPublic(t *testing.T) {
	for _, c := range []struct {
		high, low byte
		ok        bool
	}{{0, 0, true}, {3, 0, true}, {3, 1, false}, {4, 0, false}, {255, 255, false}} {
		for at := 8; at < 40; at += 2 {
			b := make([]byte, 40)
			b[at], b[at+1] = c.high, c.low
			got, ok := ReadPublic(b)
			if ok != c.ok || !ok && got != (Public{}) {
				t.Errorf("P6: a public key with %d, %d at %d: %v, want %v", c.high, c.low, at, ok, c.ok)
			}
		}
	}
	for _, n := range []int{0, 8, 39, 41, 72} {
		if got, ok := ReadPublic(make([]byte, n)); ok || got != (Public{}) {
			t.Errorf("P6: %d bytes are taken for a public key", n)
		}
	}
}

// Whatever is wrong, nothing of the key is handed on.
func TestReadSecretOfWrongBytes(t *testing.T) {
	good := Make([]byte("abcdefgh")).Bytes()
	for at := range good {
		wrong := bytes.Clone(good)
		wrong[at]++
		if got, ok := ReadSecret(wrong); ok || got != (Secret{}) {
			t.Errorf("P6: a secret key, its byte %d changed: %v, %v", at, got, ok)
		}
	}
}

// The digest binds the high parts alone, not the low ones, and all of the text.
func TestTilde(t *testing.T) {
	key := Make([]byte("abcdefgh")).Public
	base := key.Tilde(ring.Pair{{48, 0, 721}}, []byte("a text"))
	if got := key.Tilde(ring.Pair{{0, 768, 0}}, []byte("a text")); got != base {
		t.Errorf("P6: other low parts make another digest: %v, want %v", got, base)
	}
	for _, w := range []ring.Pair{{{49, 0, 721}}, {{48, 0, 720}}, {{48, 0, 721}, {7: 96}}} {
		if got := key.Tilde(w, []byte("a text")); got == base {
			t.Errorf("P6: other high parts, of %v, make the same digest", w)
		}
	}
	if got := key.Tilde(ring.Pair{{48, 0, 721}}, []byte("a texT")); got == base {
		t.Errorf("P6: another text makes the same digest")
	}
	if got := Make([]byte("12345678")).Tilde(ring.Pair{{48, 0, 721}}, []byte("a text")); got == base {
		t.Errorf("P6: another public key makes the same digest")
	}
}
