package signet_test

import (
	"bytes"
	"testing"

	"signet/api"
	"signet/signet"
)

// The bytes that are written out in these tests were worked out from the document's words by another program.

func TestKeys(t *testing.T) {
	for _, c := range []struct {
		seed string
		want []byte
	}{
		{"abcdefgh", []byte{111, 1, 170, 121, 133, 30, 185, 88, 0, 182, 1, 1, 0, 244, 1, 13, 0, 246, 0, 251, 2, 127, 1, 179, 0, 199, 1, 108, 1, 135, 2, 102, 2, 168, 0, 93, 0, 48, 1, 172, 1, 0, 2, 2, 1, 0, 0, 2, 2, 2, 2, 0, 2, 0, 0, 2, 2, 2, 1, 2, 0, 1, 1, 1, 1, 2, 0, 0, 0, 1, 1, 2}},
		{"\x00\x00\x00\x00\x00\x00\x00\x00", []byte{171, 11, 245, 58, 208, 231, 212, 21, 1, 157, 1, 207, 2, 179, 2, 147, 2, 252, 0, 38, 1, 147, 0, 96, 2, 143, 1, 53, 2, 88, 0, 248, 0, 151, 2, 221, 1, 101, 1, 60, 0, 0, 1, 1, 0, 0, 2, 1, 2, 2, 0, 1, 0, 2, 2, 2, 0, 0, 2, 0, 0, 2, 1, 2, 1, 0, 1, 0, 2, 0, 1, 0}},
		{"\xff\xff\xff\xff\xff\xff\xff\xff", []byte{35, 199, 52, 160, 228, 246, 125, 226, 2, 200, 1, 62, 1, 124, 2, 194, 2, 22, 2, 140, 0, 132, 2, 75, 2, 111, 0, 28, 2, 16, 1, 96, 2, 65, 0, 85, 2, 67, 2, 15, 2, 1, 2, 0, 2, 1, 0, 0, 2, 2, 0, 0, 0, 0, 1, 0, 0, 1, 2, 2, 0, 0, 1, 2, 2, 1, 1, 2, 2, 2, 2, 1}},
	} {
		public, secret, e := signet.Keys([]byte(c.seed))
		if !bytes.Equal(public, c.want[:40]) || !bytes.Equal(secret, c.want) || e != api.OK {
			t.Errorf("P5: Keys(%q): %v, %v, %d, want %v", c.seed, public, secret, e, c.want)
		}
	}
}

func TestKeysOfManySeeds(t *testing.T) {
	for n := range 1000 {
		seed := []byte{7, 6, 5, 4, 3, 2, byte(n >> 8), byte(n)}
		public, secret, e := signet.Keys(seed)
		wantPublic, wantSecret := keysByHand(seed)
		if !bytes.Equal(public, wantPublic) || !bytes.Equal(secret, wantSecret) || e != api.OK {
			t.Fatalf("P5: Keys(%v): %v, %v, %d, want %v", seed, public, secret, e, wantSecret)
		}
	}
}

func TestKeysOfAWrongSeed(t *testing.T) {
	for _, seed := range [][]byte{nil, {}, make([]byte, 1), make([]byte, 7), make([]byte, 7, 8), make([]byte, 9), make([]byte, 16), make([]byte, 1<<20)} {
		if public, secret, e := signet.Keys(seed); public != nil || secret != nil || e != api.ErrSeed {
			t.Errorf("P5: Keys of %d bytes: %v, %v, %d, want nothing and ErrSeed", len(seed), public, secret, e)
		}
	}
	if public, secret, e := signet.Keys(make([]byte, 8, 100)); len(public) != 40 || len(secret) != 72 || e != api.OK {
		t.Errorf("P5: Keys of 8 bytes: %d bytes, %d bytes, %d", len(public), len(secret), e)
	}
}

// keyIsTaken tells whether bytes are held for a secret key: by Try and Sign alike, and with nothing beside the error.
func keyIsTaken(t *testing.T, secret []byte) bool {
	t.Helper()
	signature, number, e := signet.Try(secret, nil, [][]byte{still()})
	other, f := signet.Sign(secret, nil, make([]byte, 8))
	if (e == api.ErrKey) != (f == api.ErrKey) || e == api.ErrKey && (signature != nil || number != 0 || other != nil) {
		t.Errorf("P6, P7: Try and Sign of %v: %v, %d, %d and %v, %d", secret, signature, number, e, other, f)
	}
	return e != api.ErrKey
}

func TestSecretKeysOfOtherLengths(t *testing.T) {
	secret := secretOf(t, "abcdefgh")
	if !keyIsTaken(t, secret) {
		t.Fatalf("P6: a secret key is refused")
	}
	for n := range 72 {
		if keyIsTaken(t, secret[:n]) {
			t.Errorf("P6: the first %d bytes of a secret key are taken for one", n)
		}
	}
	for _, wrong := range [][]byte{nil, append(bytes.Clone(secret), 0), append(bytes.Clone(secret), secret...), make([]byte, 72)} {
		if keyIsTaken(t, wrong) {
			t.Errorf("P6: %d bytes are taken for a secret key: %v", len(wrong), wrong)
		}
	}
}

func TestSecretKeysOfWhichAByteWasChanged(t *testing.T) {
	for _, seed := range []string{"abcdefgh", "12345678"} {
		secret := secretOf(t, seed)
		for at := range secret {
			for add := 1; add < 256; add++ {
				wrong := bytes.Clone(secret)
				wrong[at] += byte(add)
				if keyIsTaken(t, wrong) {
					t.Errorf("P6: a secret key, its byte %d more by %d, is taken for one", at, add)
				}
			}
		}
	}
}

// The same number modulo Q, written otherwise, makes no key.
func TestSecretKeysWithNumbersFromQOn(t *testing.T) {
	secret := secretOf(t, "abcdefgh")
	for at := 8; at < 40; at += 2 {
		for _, times := range []int{1, 2, 84} {
			wrong := bytes.Clone(secret)
			x := int(wrong[at])<<8 + int(wrong[at+1]) + 769*times
			wrong[at], wrong[at+1] = byte(x>>8), byte(x)
			if keyIsTaken(t, wrong) {
				t.Errorf("P6: a secret key with the number %d at %d is taken for one", x, at)
			}
		}
	}
	for at := 40; at < 72; at++ {
		wrong := bytes.Clone(secret)
		wrong[at] += 3
		if keyIsTaken(t, wrong) {
			t.Errorf("P6: a secret key with %d at %d is taken for one", wrong[at], at)
		}
	}
}

// Bytes from 3 on make no key, though t is A times s plus e with the numbers that they would stand for.
func TestSecretKeysWithGreatSecrets(t *testing.T) {
	for at := range 32 {
		for _, x := range []byte{2, 3, 4, 255} {
			small := bytes.Repeat([]byte{1}, 32)
			small[at] = x
			if taken := keyIsTaken(t, secretByHand([]byte("any rho."), small)); taken != (x == 2) {
				t.Errorf("P6: a secret key with the secret byte %d at %d, and t that fits: taken for one: %v", x, at, taken)
			}
		}
	}
}

// Any rho and any secrets make a secret key, if t fits: the document asks for no seed.
func TestSecretKeysOfNoSeed(t *testing.T) {
	for _, c := range []struct {
		rho  []byte
		s, e byte
	}{{[]byte("any rho."), 1, 1}, {[]byte("any rho."), 1, 0}, {[]byte("any rho."), 1, 2}, {make([]byte, 8), 2, 2}, {bytes.Repeat([]byte{255}, 8), 0, 0}} {
		small := append(bytes.Repeat([]byte{c.s}, 16), bytes.Repeat([]byte{c.e}, 16)...)
		secret := secretByHand(c.rho, small)
		if !keyIsTaken(t, secret) {
			t.Errorf("P6: a secret key of rho %v, with %d and %d, is refused", c.rho, c.s, c.e)
		}
	}
}

// Where s is 0 and e is -1, all of t is 768; where e is 0, t is 0, and 769 may not stand for it.
func TestSecretKeysAtTheEdgeOfT(t *testing.T) {
	s := bytes.Repeat([]byte{1}, 16)
	least := joined("any rho.", bytes.Repeat([]byte{3, 0}, 16), s, make([]byte, 16))
	if !keyIsTaken(t, least) {
		t.Errorf("P6: a secret key with numbers 768 is refused")
	}
	none := joined("any rho.", make([]byte, 32), s, s)
	if !keyIsTaken(t, none) {
		t.Errorf("P6: a secret key with numbers 0 is refused")
	}
	for at := 8; at < 40; at += 2 {
		wrong := bytes.Clone(none)
		wrong[at], wrong[at+1] = 3, 1
		if keyIsTaken(t, wrong) {
			t.Errorf("P6: a secret key with the number 769 at %d is taken for one", at)
		}
	}
	for at := 40; at < 72; at++ {
		wrong := bytes.Clone(none)
		wrong[at] = 3
		if keyIsTaken(t, wrong) {
			t.Errorf("P6: a secret key with 3 at %d, and numbers 0, is taken for one", at)
		}
	}
}
