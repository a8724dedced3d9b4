package signet_test

import (
	"bytes"
	"slices"
	"testing"

	"signet/api"
	"signet/signet"
)

// The bytes that are written out in these tests were worked out from the document's words by another program.

func publicOf(t *testing.T, seed string) []byte {
	t.Helper()
	return bytes.Clone(secretOf(t, seed)[:40])
}

// signedText is a signature that holds.
type signedText struct {
	name                    string
	public, text, signature []byte
}

// holding are signatures that hold: of Try, of Sign, and of a public key that none need have made.
func holding(t *testing.T) []signedText {
	t.Helper()
	abc := publicOf(t, "abcdefgh")
	whole := func(rho string, high byte, low byte) []byte { return joined(rho, bytes.Repeat([]byte{high, low}, 16)) }
	return []signedText{
		{"of Sign", abc, []byte("a text"), []byte{115, 69, 39, 210, 78, 158, 24, 188, 37, 93, 112, 22, 19, 54, 37, 112, 65, 85, 22, 36, 104, 41, 91, 38}},
		{"of Sign, of no text", abc, nil, []byte{45, 185, 138, 92, 220, 10, 142, 138, 105, 15, 81, 35, 102, 107, 91, 103, 102, 16, 91, 97, 48, 81, 83, 115}},
		{"of Sign, of 200 bytes", abc, bytes.Repeat([]byte{255}, 200), []byte{76, 157, 207, 220, 122, 223, 249, 233, 6, 74, 55, 29, 26, 63, 57, 86, 100, 12, 74, 98, 94, 111, 42, 108}},
		{"of Sign, with its last mask", abc, []byte("a text"), []byte{96, 1, 165, 46, 43, 111, 50, 226, 84, 68, 104, 49, 10, 57, 110, 40, 92, 19, 109, 120, 89, 12, 48, 33}},
		{"of Try, with z of 61 and -61", abc, []byte("a text"), []byte{222, 223, 110, 122, 194, 208, 115, 159, 73, 110, 122, 82, 122, 123, 3, 33, 17, 32, 16, 125, 55, 75, 67, 29}},
		{"of Try, with low parts 45 and -45", abc, []byte("a text"), []byte{14, 154, 175, 163, 157, 125, 146, 8, 15, 14, 44, 13, 88, 75, 23, 62, 16, 53, 123, 54, 25, 27, 97, 48}},
		{"with t of 768 and z of 61 throughout", whole("any rho.", 3, 0), []byte{0}, joined([]byte{74, 58, 57, 198, 16, 192, 44, 170}, bytes.Repeat([]byte{125}, 16))},
		{"with t of 768 and z of -61 throughout", whole("any rho.", 3, 0), []byte{0}, joined([]byte{172, 61, 140, 46, 55, 98, 213, 106}, bytes.Repeat([]byte{3}, 16))},
		{"with t of 768 and z of 0 throughout", whole("any rho.", 3, 0), []byte{0}, joined([]byte{204, 114, 38, 252, 214, 120, 32, 242}, still())},
		{"with nothing but zeros", make([]byte, 40), []byte{0}, joined([]byte{25, 229, 115, 6, 60, 103, 132, 149}, still())},
		{"with t of 384 and 385, and z of 61 and -61", joined("any rho.", bytes.Repeat([]byte{1, 128, 1, 129}, 8)), []byte{0}, joined([]byte{147, 242, 80, 38, 160, 249, 14, 165}, bytes.Repeat([]byte{125, 3}, 8))},
		{"with t of 721 and 720, and z of -61 and 61", joined("another.", bytes.Repeat([]byte{2, 209, 2, 208}, 8)), []byte{1}, joined([]byte{129, 97, 138, 232, 225, 40, 162, 99}, bytes.Repeat([]byte{3}, 8), bytes.Repeat([]byte{125}, 8))},
	}
}

func TestVerify(t *testing.T) {
	for _, c := range holding(t) {
		if holds, e := signet.Verify(c.public, c.text, c.signature); !holds || e != api.OK {
			t.Errorf("P8: Verify of a signature %s: %v, %d, want true", c.name, holds, e)
		}
	}
}

// The document's example.
func TestVerifyOfWhatSignTold(t *testing.T) {
	public := publicOf(t, "12345678")
	signature := signed(secretOf(t, "12345678"), []byte("a text"), []byte("saltsalt"))
	for _, c := range []struct {
		text      string
		signature []byte
		want      bool
	}{{"a text", signature, true}, {"another text", signature, false}, {"a text", signature[:23], false}} {
		if holds, e := signet.Verify(public, []byte(c.text), c.signature); holds != c.want || e != api.OK {
			t.Errorf("P8: Verify of %q, of %d bytes: %v, %d, want %v", c.text, len(c.signature), holds, e, c.want)
		}
	}
}

// Nothing is a signature of two keys, or of two texts.
func TestVerifyOfWhatBelongsToAnother(t *testing.T) {
	all := holding(t)
	for i, key := range all {
		for j, text := range all {
			for k, signature := range all {
				own := bytes.Equal(key.public, signature.public) && bytes.Equal(text.text, signature.text)
				if holds, e := signet.Verify(key.public, text.text, signature.signature); holds != own || e != api.OK {
					t.Errorf("P8: Verify of the key %d, the text %d and the signature %d: %v, %d, want %v", i, j, k, holds, e, own)
				}
			}
		}
	}
}

// changes calls look with each list of which one byte is another.
func changes(list []byte, look func(at int, changed []byte)) {
	for at := range list {
		for add := 1; add < 256; add++ {
			changed := bytes.Clone(list)
			changed[at] += byte(add)
			look(at, changed)
		}
	}
}

func TestVerifyOfAByteChangedInTheSignature(t *testing.T) {
	for _, c := range holding(t) {
		changes(c.signature, func(at int, changed []byte) {
			if holds, e := signet.Verify(c.public, c.text, changed); holds || e != api.OK {
				t.Errorf("P8: a signature %s, its byte %d changed to %d: %v, %d, want false", c.name, at, changed[at], holds, e)
			}
		})
	}
}

func TestVerifyOfAByteChangedInTheText(t *testing.T) {
	for _, c := range holding(t) {
		changes(c.text, func(at int, changed []byte) {
			if holds, e := signet.Verify(c.public, changed, c.signature); holds || e != api.OK {
				t.Errorf("P8: a signature %s, the text's byte %d changed to %d: %v, %d, want false", c.name, at, changed[at], holds, e)
			}
		})
		if len(c.text) == 0 {
			continue
		}
		for _, text := range [][]byte{c.text[1:], c.text[:len(c.text)-1]} {
			if holds, e := signet.Verify(c.public, text, c.signature); holds || e != api.OK {
				t.Errorf("P8: a signature %s, the text less by a byte: %v, %d, want false", c.name, holds, e)
			}
		}
	}
}

// Where the number is too great, the bytes are no public key.
func TestVerifyOfAByteChangedInTheKey(t *testing.T) {
	for _, c := range holding(t) {
		changes(c.public, func(at int, changed []byte) {
			want := api.OK
			if high := at &^ 1; at >= 8 && 256*int(changed[high])+int(changed[high+1]) >= 769 {
				want = api.ErrKey
			}
			if holds, e := signet.Verify(changed, c.text, c.signature); holds || e != want {
				t.Errorf("P8: a signature %s, the key's byte %d changed to %d: %v, %d, want false, %d", c.name, at, changed[at], holds, e, want)
			}
		})
	}
}

func TestVerifyOfKeysOfOtherLengths(t *testing.T) {
	for _, c := range holding(t)[:1] {
		for n := range 40 {
			if holds, e := signet.Verify(c.public[:n], c.text, c.signature); holds || e != api.ErrKey {
				t.Errorf("P8: Verify of a key of %d bytes: %v, %d, want ErrKey", n, holds, e)
			}
		}
		for _, wrong := range [][]byte{nil, append(bytes.Clone(c.public), 0), secretOf(t, "abcdefgh"), make([]byte, 1<<20)} {
			if holds, e := signet.Verify(wrong, c.text, c.signature); holds || e != api.ErrKey {
				t.Errorf("P8: Verify of a key of %d bytes: %v, %d, want ErrKey", len(wrong), holds, e)
			}
		}
	}
}

// A number of 768 is one; 769 is none, though it is 0 modulo Q, and nothing else is wrong.
func TestVerifyOfNumbersAtTheEdge(t *testing.T) {
	for at := 8; at < 40; at += 2 {
		public := joined("any rho.", make([]byte, 32))
		public[at] = 3
		text, signature := forged(t, public, make([]int, 16))
		if holds, e := signet.Verify(public, text, signature); !holds || e != api.OK {
			t.Errorf("P8: Verify with the number 768 at %d: %v, %d, want true", at, holds, e)
		}
		for _, number := range []int{769, 770, 1024, 1538, 65535} {
			public[at], public[at+1] = byte(number>>8), byte(number)
			text, signature := forged(t, public, make([]int, 16))
			if holds, e := signet.Verify(public, text, signature); holds || e != api.ErrKey {
				t.Errorf("P8: Verify with the number %d at %d: %v, %d, want ErrKey", number, at, holds, e)
			}
		}
	}
}

func TestVerifyOfSignaturesOfOtherLengths(t *testing.T) {
	for _, c := range holding(t) {
		wrong := [][]byte{nil, {}, joined(c.signature, 0), joined(c.signature, 64), joined(c.signature, c.signature), joined(0, c.signature), make([]byte, 1<<20)}
		for n := range 24 {
			wrong = append(wrong, c.signature[:n], c.signature[n+1:])
		}
		for _, w := range wrong {
			if holds, e := signet.Verify(c.public, c.text, w); holds || e != api.OK {
				t.Errorf("P8: a signature %s, of %d bytes: %v, %d, want false", c.name, len(w), holds, e)
			}
		}
	}
}

// All that is wrong is the one coefficient of z, if it is.
func TestVerifyOfZAtTheEdge(t *testing.T) {
	public := publicOf(t, "abcdefgh")
	for at := range 16 {
		for _, x := range []int{-64, -63, -62, -61, -60, 0, 60, 61, 62, 63, 64, 128, 190, 191} {
			z := []int{9, -8, 7, -6, 5, -4, 3, -2, 1, 0, -1, 2, -3, 4, -5, 6}
			z[at] = x
			text, signature := forged(t, public, z)
			want := x > -62 && x < 62
			if holds, e := signet.Verify(public, text, signature); holds != want || e != api.OK {
				t.Errorf("P8: Verify with z of %d at %d: %v, %d, want %v", x, at, holds, e, want)
			}
		}
	}
}

// Of tries that fail by z alone the signature would hold, but for z.
func TestVerifyOfTriesThatFailByZ(t *testing.T) {
	public, secret := publicOf(t, "abcdefgh"), secretOf(t, "abcdefgh")
	for _, mask := range []int{180, 56, 12, 17} {
		signature := tryByHand(secret, []byte("a text"), maskOf(mask)).written()
		if holds, e := signet.Verify(public, []byte("a text"), signature); holds || e != api.OK {
			t.Errorf("P8: Verify of what the mask %d would have told: %v, %d, want false", mask, holds, e)
		}
	}
}

// Low parts are not looked at: what a try may not show is verified nevertheless, if the high parts happen to agree.
func TestVerifyOfTriesThatFailByLowParts(t *testing.T) {
	public, secret := publicOf(t, "abcdefgh"), secretOf(t, "abcdefgh")
	for _, c := range []struct {
		mask, low int
		want      bool
	}{{6, 46, true}, {2, 47, true}, {0, 48, false}, {65, -46, true}, {11, -47, true}, {751, -48, true}} {
		a := tryByHand(secret, []byte("a text"), maskOf(c.mask))
		if !slices.Contains(a.lows, c.low) {
			t.Fatalf("the mask %d has no low part %d", c.mask, c.low)
		}
		if holds, e := signet.Verify(public, []byte("a text"), a.written()); holds != c.want || e != api.OK {
			t.Errorf("P8: Verify of what the mask %d (a low part %d) would have told: %v, %d, want %v", c.mask, c.low, holds, e, c.want)
		}
	}
}

// Whatever a try comes to, whether it may be shown or not.
func TestVerifyOfManyTries(t *testing.T) {
	seen := map[[2]bool]int{}
	for n := range 2000 {
		seed := []byte{8, 7, 6, 5, 4, 3, 2, byte(n % 50)}
		public, secret, _ := signet.Keys(seed)
		a := tryByHand(secret, seed, maskOf(n))
		want := verifyByHand(public, seed, a.written())
		if holds, e := signet.Verify(public, seed, a.written()); holds != want || e != api.OK {
			t.Fatalf("P8: Verify of what the mask %d would have told: %v, %d, want %v", n, holds, e, want)
		}
		if !a.fails() && !want {
			t.Fatalf("P9: by hand, what the mask %d tells is not verified", n)
		}
		seen[[2]bool{a.fails(), want}]++
	}
	if len(seen) != 3 {
		t.Errorf("not all kinds of tries were met: %v", seen)
	}
}

func publicChoices(t *testing.T) []choice[[]byte] {
	good := publicOf(t, "abcdefgh")
	edge, great := bytes.Clone(good), bytes.Clone(good)
	edge[38], edge[39] = 3, 0
	great[38], great[39] = 3, 1
	return []choice[[]byte]{{good, api.OK}, {edge, api.OK}, {great, api.ErrKey}, {nil, api.ErrKey}, {good[:39], api.ErrKey}, {append(bytes.Clone(good), 1), api.ErrKey}, {secretOf(t, "abcdefgh"), api.ErrKey}}
}

func TestVerifyTellsTheFirstError(t *testing.T) {
	signature := holding(t)[1].signature
	for i, p := range publicChoices(t) {
		for j, x := range textChoices() {
			for k, s := range [][]byte{signature, nil, signature[:23], append(bytes.Clone(signature), 0), make([]byte, 24)} {
				want := i == 0 && j == 0 && k == 0
				if holds, e := signet.Verify(p.arg, x.arg, s); holds != want || e != first(p.e, x.e) {
					t.Errorf("P8: Verify of the key %d, the text %d and the signature %d: %v, %d, want %v, %d", i, j, k, holds, e, want, first(p.e, x.e))
				}
			}
		}
	}
}

// A text that is too long is refused, even where the digest would be right.
func TestVerifyOfTextsAtTheEdge(t *testing.T) {
	public, secret := publicOf(t, "abcdefgh"), secretOf(t, "abcdefgh")
	for _, n := range []int{199, 200, 201, 202, 1 << 20} {
		text := make([]byte, n)
		signature := tryByHand(secret, text, still()).written()
		want := api.OK
		if n > 200 {
			want = api.ErrArg
		}
		if holds, e := signet.Verify(public, text, signature); holds != (n <= 200) || e != want {
			t.Errorf("P8: Verify of a text of %d bytes: %v, %d, want %d", n, holds, e, want)
		}
	}
}

// severeSecrets are secret keys whose c e and c s reach as far as they can, and some of seeds.
func severeSecrets(t *testing.T) [][]byte {
	secrets := [][]byte{secretOf(t, "abcdefgh"), secretOf(t, "\x00\x00\x00\x00\x00\x00\x00\x00")}
	for _, rho := range []string{"any rho.", "\xff\xff\xff\xff\xff\xff\xff\xff"} {
		for _, small := range [][2]byte{{0, 0}, {0, 2}, {1, 0}, {2, 2}} {
			secrets = append(secrets, secretByHand([]byte(rho), joined(bytes.Repeat(small[:1], 16), bytes.Repeat(small[1:], 16))))
		}
	}
	return secrets
}

// At the edges the high parts of w and of w - c e stay the same by a hair: c e is at most 2, and a low part 45 or -45 becomes 47 or -47.
func TestWhatTryTellsIsVerified(t *testing.T) {
	text := []byte("a text")
	seen := map[int]int{}
	for _, secret := range severeSecrets(t) {
		for n := range 1500 {
			signature, _, e := signet.Try(secret, text, [][]byte{maskOf(n)})
			if e == api.ErrNone {
				continue
			}
			if holds, e := signet.Verify(secret[:40], text, signature); !holds || e != api.OK {
				t.Fatalf("P9: Verify of what Try told with the mask %d: %v, %d, want true", n, holds, e)
			}
			for _, low := range tryByHand(secret, text, maskOf(n)).bare {
				seen[low]++
			}
			for _, x := range signature[8:] {
				seen[1000+int(x)-64]++
			}
		}
	}
	for _, edge := range []int{47, -47, 46, -46, 1061, 939} {
		if seen[edge] == 0 {
			t.Errorf("none of the masks meets this edge: %d", edge)
		}
	}
}

func TestWhatTryTellsOfTapesIsVerified(t *testing.T) {
	for n := range 150 {
		public, secret, _ := signet.Keys([]byte{9, 9, 9, 9, 9, 9, 9, byte(n)})
		text := bytes.Repeat([]byte{byte(n)}, n)
		for _, tape := range [][][]byte{masksOf(60)[n%50:], loudThenStill(n % 60), {still()}} {
			signature, _, e := signet.Try(secret, text, tape)
			if e == api.ErrNone {
				continue
			}
			if holds, e := signet.Verify(public, text, signature); !holds || e != api.OK {
				t.Errorf("P9: Verify of what Try told of the key %d: %v, %d, want true", n, holds, e)
			}
		}
	}
}

func TestWhatSignTellsIsVerified(t *testing.T) {
	for k, secret := range severeSecrets(t) {
		for n := range 201 {
			text := bytes.Repeat([]byte{byte(k + n)}, n)
			signature, e := signet.Sign(secret, text, []byte{1, 2, 3, 4, 5, 6, byte(k), byte(n)})
			if e != api.OK {
				t.Fatalf("P9: Sign with the key %d of a text of %d bytes: %d", k, n, e)
			}
			if holds, e := signet.Verify(secret[:40], text, signature); !holds || e != api.OK {
				t.Errorf("P9: Verify of what Sign told with the key %d, of a text of %d bytes: %v, %d, want true", k, n, holds, e)
			}
		}
	}
}
