package shown

import (
	"bytes"
	"testing"

	"signet/api"
	"signet/keys"
	"signet/ring"
)

func TestWrittenSignaturesAreReadAgain(t *testing.T) {
	for _, s := range []Signature{
		{},
		{[8]byte{1, 2, 3, 4, 5, 6, 7, 255}, ring.Pair{{61, -61, 60, -60, 1, -1, 0, 2}, {-2, 3, -3, 4, -4, 5, -61, 61}}},
	} {
		if got, ok := Read(s.Bytes()); got != s || !ok {
			t.Errorf("P8: a signature is read as %v, %v, want %v", got, ok, s)
		}
	}
	s := Signature{[8]byte{7, 6, 5, 4, 3, 2, 1, 0}, ring.Pair{{61, -61}, {7: 1}}}
	want := []byte{7, 6, 5, 4, 3, 2, 1, 0, 125, 3, 64, 64, 64, 64, 64, 64, 64, 64, 64, 64, 64, 64, 64, 65}
	if got := s.Bytes(); !bytes.Equal(got, want) {
		t.Errorf("P6: a signature is written as %v, want %v", got, want)
	}
}

// Whatever is wrong, nothing of the signature is handed on.
func TestReadOfWrongBytes(t *testing.T) {
	for _, n := range []int{0, 8, 16, 23, 25, 48} {
		if got, ok := Read(bytes.Repeat([]byte{64}, n)); got != (Signature{}) || ok {
			t.Errorf("P8: %d bytes are taken for a signature: %v", n, got)
		}
	}
	for at := 8; at < 24; at++ {
		for x := range 256 {
			b := bytes.Repeat([]byte{64}, 24)
			b[at] = byte(x)
			want := x >= 3 && x <= 125
			if got, ok := Read(b); ok != want || !ok && got != (Signature{}) {
				t.Errorf("P8: bytes with %d at %d are read as %v, %v, want %v", x, at, got, ok, want)
			}
		}
	}
}

func TestFine(t *testing.T) {
	for x, want := range map[int]bool{-66: false, -62: false, -61: true, 0: true, 61: true, 62: false, 66: false} {
		if s := (Signature{Z: ring.Pair{{}, {3: x}}}); s.Fine() != want {
			t.Errorf("P6: with z of %d a signature is fine: %v", x, !want)
		}
	}
}

// Where t and z are 0, w is 0 whatever the challenge.
func TestHolds(t *testing.T) {
	key, ok := keys.ReadPublic(make([]byte, api.PublicBytes))
	if !ok {
		t.Fatal("zeros are no public key")
	}
	s := Signature{Tilde: key.Tilde(ring.Pair{}, []byte("a text"))}
	if !s.Holds(key, []byte("a text")) {
		t.Error("P8: a signature does not hold")
	}
	if s.Holds(key, []byte("b text")) {
		t.Error("P8: a signature holds for another text")
	}
	other := s
	other.Tilde[7] ^= 1
	if other.Holds(key, []byte("a text")) {
		t.Error("P8: a signature with another c-tilde holds")
	}
	other = s
	other.Z[1][7] = 1
	if other.Holds(key, []byte("a text")) {
		t.Error("P8: a signature with another z holds")
	}
	key.T[0][0] = 400
	if s.Holds(key, []byte("a text")) {
		t.Error("P8: a signature holds for another key")
	}
}
