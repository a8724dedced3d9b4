package signet_test

import (
	"bytes"
	"testing"

	"signet/api"
	"signet/signet"
)

// The bytes that are written out in these tests were worked out from the document's words by another program.

func TestSign(t *testing.T) {
	for _, c := range []struct {
		seed, text string
		salt       []byte
		want       []byte
	}{
		{"abcdefgh", "", []byte("saltsalt"), []byte{45, 185, 138, 92, 220, 10, 142, 138, 105, 15, 81, 35, 102, 107, 91, 103, 102, 16, 91, 97, 48, 81, 83, 115}},
		{"abcdefgh", "a text", []byte("saltsalt"), []byte{115, 69, 39, 210, 78, 158, 24, 188, 37, 93, 112, 22, 19, 54, 37, 112, 65, 85, 22, 36, 104, 41, 91, 38}},
		{"abcdefgh", string(bytes.Repeat([]byte{255}, 200)), []byte("saltsalt"), []byte{76, 157, 207, 220, 122, 223, 249, 233, 6, 74, 55, 29, 26, 63, 57, 86, 100, 12, 74, 98, 94, 111, 42, 108}},
		{"\x00\x00\x00\x00\x00\x00\x00\x00", "a text", []byte{0, 0, 0, 0, 0, 0, 0, 255}, []byte{111, 114, 115, 2, 157, 221, 188, 124, 20, 45, 95, 13, 122, 122, 17, 63, 70, 41, 81, 38, 4, 57, 71, 75}},
		// 59 masks fail, and the last one does not
		{"abcdefgh", "a text", []byte{0, 0, 0, 0, 0, 79, 232, 57}, []byte{96, 1, 165, 46, 43, 111, 50, 226, 84, 68, 104, 49, 10, 57, 110, 40, 92, 19, 109, 120, 89, 12, 48, 33}},
	} {
		got, e := signet.Sign(secretOf(t, c.seed), []byte(c.text), c.salt)
		if !bytes.Equal(got, c.want) || e != api.OK {
			t.Errorf("P7: Sign of %q, %q and %v: %v, %d, want %v", c.seed, c.text, c.salt, got, e, c.want)
		}
	}
}

// With this salt all 60 masks fail: such salts are one in some millions.
func TestSignWithASaltOfWhichAllMasksFail(t *testing.T) {
	secret := secretOf(t, "abcdefgh")
	salt := []byte{0, 0, 0, 0, 0, 10, 115, 19}
	if got, e := signet.Sign(secret, []byte("a text"), salt); got != nil || e != api.ErrNone {
		t.Errorf("P7: Sign with the salt %v: %v, %d, want nothing and ErrNone", salt, got, e)
	}
}

// tapeByHand is the tape that Sign goes through.
func tapeByHand(secret []byte, salt []byte, text []byte) [][]byte {
	seed := signet.Digest(joined(5, secret, salt, text))
	var tape [][]byte
	for k := range 60 {
		mask := streamOf(seed, k)[:16]
		for i := range mask {
			mask[i] %= 128
		}
		tape = append(tape, mask)
	}
	return tape
}

func TestSignIsTryWithATapeOfTheSalt(t *testing.T) {
	numbers := map[int]int{}
	secrets := [][]byte{secretOf(t, "abcdefgh"), secretOf(t, "12345678")}
	for n := range 300 {
		secret := secrets[n%2]
		text := bytes.Repeat([]byte{byte(n)}, n%201)
		salt := []byte{255, 0, 1, 2, 3, 4, byte(n >> 8), byte(n)}
		want, number, code := signet.Try(secret, text, tapeByHand(secret, salt, text))
		if got, e := signet.Sign(secret, text, salt); !bytes.Equal(got, want) || e != code {
			t.Errorf("P7: Sign of the text %d: %v, %d, want %v, %d", n, got, e, want, code)
		}
		numbers[number]++
	}
	if len(numbers) < 10 {
		t.Errorf("P7: only %d numbers of masks were told", len(numbers))
	}
}

func TestSignTellsTheFirstError(t *testing.T) {
	salts := []choice[[]byte]{{make([]byte, 8), api.OK}, {nil, api.ErrSeed}, {make([]byte, 7, 8), api.ErrSeed}, {make([]byte, 9), api.ErrSeed}, {make([]byte, 1<<20), api.ErrSeed}}
	for i, s := range secretChoices(t) {
		for j, x := range textChoices() {
			for k, l := range salts {
				want := first(s.e, x.e, l.e)
				got, e := signet.Sign(s.arg, x.arg, l.arg)
				if e != want || (got == nil) != (want != api.OK) {
					t.Errorf("P7: Sign of the secret %d, the text %d and the salt %d: %v, %d, want %d", i, j, k, got, e, want)
				}
			}
		}
	}
}
