package signet_test

import (
	"bytes"
	"fmt"
	"slices"
	"testing"

	"signet/api"
	"signet/signet"
)

// The bytes that are written out in these tests were worked out from the document's words by another program.

// One mask each; those without a signature fail.
func TestTryOfOneMask(t *testing.T) {
	secret := secretOf(t, "abcdefgh")
	for _, c := range []struct {
		mask int
		why  string
		want []byte
	}{
		{10, "nothing is near a bound", []byte{218, 177, 63, 249, 39, 188, 45, 128, 35, 33, 103, 90, 47, 76, 91, 116, 93, 43, 116, 91, 33, 86, 71, 112}},
		{24, "low parts 45 and -45, and w alone would fail", []byte{14, 154, 175, 163, 157, 125, 146, 8, 15, 14, 44, 13, 88, 75, 23, 62, 16, 53, 123, 54, 25, 27, 97, 48}},
		{50, "z of -61", []byte{189, 130, 73, 95, 210, 176, 10, 251, 53, 11, 50, 40, 34, 76, 15, 97, 25, 112, 28, 62, 3, 59, 34, 96}},
		{48, "z of 61", []byte{93, 173, 58, 60, 140, 133, 27, 169, 84, 73, 83, 106, 6, 27, 59, 54, 37, 75, 125, 21, 68, 56, 92, 56}},
		{85, "z of 61 and -61", []byte{222, 223, 110, 122, 194, 208, 115, 159, 73, 110, 122, 82, 122, 123, 3, 33, 17, 32, 16, 125, 55, 75, 67, 29}},
		{116, "a byte 127 in the mask", []byte{174, 126, 142, 105, 224, 43, 14, 119, 67, 12, 51, 58, 62, 123, 83, 42, 93, 25, 79, 41, 77, 3, 83, 94}},
		{180, "z of 62 alone", nil},
		{56, "z of 63 alone", nil},
		{12, "z of -62 alone", nil},
		{17, "z of -63 alone", nil},
		{6, "a low part 46 alone", nil},
		{2, "a low part 47 alone", nil},
		{0, "a low part 48 alone", nil},
		{65, "a low part -46 alone", nil},
		{11, "a low part -47 alone", nil},
		{751, "a low part -48 alone", nil},
		{20, "a low part, and w alone would not fail", nil},
		{1, "z and a low part", nil},
	} {
		want := api.OK
		if c.want == nil {
			want = api.ErrNone
		}
		got, number, e := signet.Try(secret, []byte("a text"), [][]byte{maskOf(c.mask)})
		if !bytes.Equal(got, c.want) || number != 0 || e != want {
			t.Errorf("P6: the mask %d (%s): %v, %d, %d, want %v, 0, %d", c.mask, c.why, got, number, e, c.want, want)
		}
	}
}

// kinds names the edges that a try meets.
func kinds(a attempt) []string {
	var out []string
	z, lows := beyond(62, a.z), beyond(46, a.lows)
	for _, c := range []struct {
		name               string
		bound              int
		all, wrong, others []int
	}{{"z", 62, a.z, z, lows}, {"low", 46, a.lows, lows, z}} {
		if len(c.wrong) == 1 && len(c.others) == 0 {
			out = append(out, fmt.Sprint("fails by ", c.name, " ", c.wrong[0], " alone"))
		}
		for _, x := range []int{c.bound - 1, 1 - c.bound} {
			if !a.fails() && slices.Contains(c.all, x) {
				out = append(out, fmt.Sprint("does not fail at ", c.name, " ", x))
			}
		}
	}
	if bare := len(beyond(46, a.bare)) > 0; len(z) == 0 && bare != a.fails() {
		out = append(out, fmt.Sprint("w alone would fail: ", bare))
	}
	return out
}

func TestTryOfManyMasks(t *testing.T) {
	seen := map[string]int{}
	texts := [][]byte{nil, []byte("a text"), bytes.Repeat([]byte{255}, 200)}
	for k, seed := range []string{"abcdefgh", "12345678", "\x00\x00\x00\x00\x00\x00\x00\x00"} {
		secret := secretOf(t, seed)
		for n := range 1500 {
			mask := maskOf(1500*k + n)
			a := tryByHand(secret, texts[k], mask)
			want, code := a.signature(), api.OK
			if want == nil {
				code = api.ErrNone
			}
			got, number, e := signet.Try(secret, texts[k], [][]byte{mask})
			if !bytes.Equal(got, want) || number != 0 || e != code {
				t.Fatalf("P6: Try of %q, with the mask %v: %v, %d, %d, want %v, 0, %d", seed, mask, got, number, e, want, code)
			}
			for _, kind := range kinds(a) {
				seen[kind]++
			}
		}
	}
	wanted := []string{"w alone would fail: true", "w alone would fail: false", "does not fail at z 61", "does not fail at z -61", "does not fail at low 45", "does not fail at low -45", "fails by low -48 alone"}
	for _, x := range []int{62, -62, 63, -63, 64, -64, 65, -65} {
		wanted = append(wanted, fmt.Sprint("fails by z ", x, " alone"))
	}
	for _, x := range []int{46, -46, 47, -47, 48} {
		wanted = append(wanted, fmt.Sprint("fails by low ", x, " alone"))
	}
	for _, kind := range wanted {
		if seen[kind] == 0 {
			t.Errorf("none of the masks meets this edge: %s", kind)
		}
	}
}

func TestTryWithKeysOfNoSeed(t *testing.T) {
	for _, c := range []struct {
		rho  []byte
		s, e byte
		mask int
		want []byte
	}{
		{[]byte("any rho."), 1, 1, 14, []byte{153, 0, 13, 87, 153, 26, 114, 3, 26, 77, 55, 7, 59, 12, 121, 87, 66, 64, 62, 41, 22, 45, 99, 27}},
		{[]byte("any rho."), 1, 0, 14, []byte{244, 107, 60, 46, 150, 91, 178, 14, 26, 77, 55, 7, 59, 12, 121, 87, 66, 64, 62, 41, 22, 45, 99, 27}},
		{make([]byte, 8), 2, 2, 13, []byte{15, 253, 233, 130, 101, 219, 16, 168, 63, 112, 50, 113, 41, 56, 49, 99, 6, 40, 84, 124, 124, 44, 10, 82}},
		{bytes.Repeat([]byte{255}, 8), 0, 0, 13, []byte{243, 108, 50, 207, 56, 110, 55, 50, 61, 112, 50, 113, 39, 56, 49, 101, 4, 40, 84, 124, 122, 44, 10, 84}},
	} {
		secret := secretByHand(c.rho, append(bytes.Repeat([]byte{c.s}, 16), bytes.Repeat([]byte{c.e}, 16)...))
		got, number, e := signet.Try(secret, nil, masksOf(60))
		if !bytes.Equal(got, c.want) || number != c.mask || e != api.OK {
			t.Errorf("P6: Try with rho %v, %d and %d: %v, %d, %d, want %v, %d", c.rho, c.s, c.e, got, number, e, c.want, c.mask)
		}
	}
}

func TestTryOfTexts(t *testing.T) {
	secret := secretOf(t, "abcdefgh")
	none := []byte{18, 162, 36, 5, 13, 41, 7, 34, 3, 83, 121, 66, 16, 34, 121, 38, 55, 124, 59, 30, 47, 40, 107, 15}
	long := []byte{23, 161, 217, 8, 67, 170, 246, 15, 3, 85, 117, 64, 18, 36, 123, 34, 51, 124, 57, 32, 45, 42, 107, 11}
	for _, c := range []struct {
		text []byte
		want []byte
	}{{nil, none}, {[]byte{}, none}, {make([]byte, 200), long}} {
		if got, number, e := signet.Try(secret, c.text, masksOf(60)); !bytes.Equal(got, c.want) || number != 8 || e != api.OK {
			t.Errorf("P6: Try of a text of %d bytes: %v, %d, %d, want %v, 8", len(c.text), got, number, e, c.want)
		}
	}
	for _, n := range []int{201, 202, 1 << 20} {
		if got, number, e := signet.Try(secret, make([]byte, n), [][]byte{still()}); got != nil || number != 0 || e != api.ErrArg {
			t.Errorf("P6: Try of a text of %d bytes: %v, %d, %d, want nothing and ErrArg", n, got, number, e)
		}
	}
}

// loudThenStill is a tape of n masks that fail, and one that does not.
func loudThenStill(n int) [][]byte {
	return append(slices.Repeat([][]byte{loud()}, n), still())
}

func TestTryOfTapesOfAllLengths(t *testing.T) {
	secret := secretOf(t, "abcdefgh")
	want := []byte{83, 49, 100, 38, 32, 165, 196, 239, 63, 64, 63, 64, 65, 64, 65, 62, 62, 64, 62, 66, 64, 64, 66, 64}
	for n := range 60 {
		tape := loudThenStill(n)
		if got, number, e := signet.Try(secret, []byte("a text"), tape); !bytes.Equal(got, want) || number != n || e != api.OK {
			t.Errorf("P6: Try with %d masks that fail and one that does not: %v, %d, %d, want %v, %d", n, got, number, e, want, n)
		}
		if got, number, e := signet.Try(secret, []byte("a text"), tape[:n]); got != nil || number != 0 || e != api.ErrNone {
			t.Errorf("P6: Try with %d masks that fail: %v, %d, %d, want nothing and ErrNone", n, got, number, e)
		}
	}
	sixty := loudThenStill(60)[:60]
	for _, c := range []struct {
		tape [][]byte
		want api.Errno
	}{{nil, api.ErrNone}, {[][]byte{}, api.ErrNone}, {sixty, api.ErrNone}, {loudThenStill(60), api.ErrTape}, {slices.Repeat([][]byte{still()}, 61), api.ErrTape}, {make([][]byte, 1<<20), api.ErrTape}} {
		if got, number, e := signet.Try(secret, []byte("a text"), c.tape); got != nil || number != 0 || e != c.want {
			t.Errorf("P6: Try with %d masks: %v, %d, %d, want nothing and %d", len(c.tape), got, number, e, c.want)
		}
	}
}

// wrongMasks are lists that are no masks.
func wrongMasks() [][]byte {
	l := [][]byte{nil, {}, {64}, still()[:15], append(still(), 64), make([]byte, 32)}
	for at := range 16 {
		for _, x := range []byte{128, 129, 192, 255} {
			mask := still()
			mask[at] = x
			l = append(l, mask)
		}
	}
	return l
}

// Wherever a wrong mask stands, behind one that would be told too.
func TestTryOfWrongMasks(t *testing.T) {
	secret := secretOf(t, "abcdefgh")
	for _, wrong := range wrongMasks() {
		for _, tape := range [][][]byte{{wrong}, {wrong, still()}, {still(), wrong}, {loud(), wrong, still()}, append(slices.Repeat([][]byte{still()}, 59), wrong)} {
			if got, number, e := signet.Try(secret, nil, tape); got != nil || number != 0 || e != api.ErrTape {
				t.Errorf("P6: Try with the mask %v among %d: %v, %d, %d, want nothing and ErrTape", wrong, len(tape), got, number, e)
			}
		}
	}
	for at := range 16 {
		mask := still()
		mask[at] = 127
		if _, _, e := signet.Try(secret, nil, [][]byte{mask}); e != api.OK && e != api.ErrNone {
			t.Errorf("P6: Try with a mask with 127 at %d: %d", at, e)
		}
	}
}

// choice is an argument, and the error that it makes; OK, if it makes none.
type choice[T any] struct {
	arg T
	e   api.Errno
}

func secretChoices(t *testing.T) []choice[[]byte] {
	good := secretOf(t, "abcdefgh")
	changed := bytes.Clone(good)
	changed[50] = (changed[50] + 1) % 3
	return []choice[[]byte]{{good, api.OK}, {nil, api.ErrKey}, {good[:71], api.ErrKey}, {good[:40], api.ErrKey}, {append(bytes.Clone(good), 1), api.ErrKey}, {changed, api.ErrKey}}
}

func textChoices() []choice[[]byte] {
	return []choice[[]byte]{{nil, api.OK}, {make([]byte, 200), api.OK}, {make([]byte, 201), api.ErrArg}, {make([]byte, 5000), api.ErrArg}}
}

func first(errors ...api.Errno) api.Errno {
	for _, e := range errors {
		if e != api.OK {
			return e
		}
	}
	return api.OK
}

func TestTryTellsTheFirstError(t *testing.T) {
	tapes := []choice[[][]byte]{{[][]byte{still()}, api.OK}, {nil, api.ErrNone}, {[][]byte{loud()}, api.ErrNone}, {[][]byte{still()[:15]}, api.ErrTape}, {[][]byte{still(), nil}, api.ErrTape}, {loudThenStill(60), api.ErrTape}}
	for i, s := range secretChoices(t) {
		for j, x := range textChoices() {
			for k, l := range tapes {
				want := first(s.e, x.e, l.e)
				got, number, e := signet.Try(s.arg, x.arg, l.arg)
				if e != want || (got == nil) != (want != api.OK) || number != 0 {
					t.Errorf("P6: Try of the secret %d, the text %d and the tape %d: %v, %d, %d, want %d", i, j, k, got, number, e, want)
				}
			}
		}
	}
}

func TestMasksBehindTheOneThatIsToldDoNotMatter(t *testing.T) {
	secret := secretOf(t, "12345678")
	numbers := map[int]int{}
	for n := range 200 {
		text := []byte{byte(n)}
		tape := masksOf(60)
		tape = append(tape[n%60:], tape[:n%60]...)
		want, number, e := signet.Try(secret, text, tape)
		if e != api.OK {
			t.Fatalf("P10: Try of the text %d: %d", n, e)
		}
		numbers[number]++
		for _, rest := range [][][]byte{nil, {still()}, {loud()}, slices.Repeat([][]byte{maskOf(7000 + n)}, 59-number)} {
			other := append(slices.Clone(tape[:number+1]), rest...)
			if len(other) > 60 {
				continue
			}
			if got, again, e := signet.Try(secret, text, other); !bytes.Equal(got, want) || again != number || e != api.OK {
				t.Errorf("P10: other masks behind the one that is told: %v, %d, %d, want %v, %d", got, again, e, want, number)
			}
		}
		if got, again, e := signet.Try(secret, text, tape[number:number+1]); !bytes.Equal(got, want) || again != 0 || e != api.OK {
			t.Errorf("P10: the mask that is told, alone: %v, %d, %d, want %v, 0", got, again, e, want)
		}
		if got, again, e := signet.Try(secret, text, tape[:number]); got != nil || again != 0 || e != api.ErrNone {
			t.Errorf("P10: the masks ahead of the one that is told: %v, %d, %d, want nothing and ErrNone", got, again, e)
		}
	}
	if len(numbers) < 8 {
		t.Errorf("P10: only %d numbers of masks were told", len(numbers))
	}
}

// maskByHand is y of a signature, written as a mask: z - c s.
func maskByHand(secret []byte, signature []byte) []byte {
	c, _ := signet.Challenge(signature[:8])
	p := secretsOf(secret[40:])
	var mask []byte
	for at, x := range signature[8:] {
		y := int(x) - 64 - centred(mulByHand(c, p[at/8])[at%8])
		mask = append(mask, byte(64-y))
	}
	return mask
}

func TestEachZBelongsToJustOneMask(t *testing.T) {
	secret := secretOf(t, "abcdefgh")
	tape := masksOf(60)
	owner := map[string]int{}
	for n := range 300 {
		text := []byte{byte(n >> 8), byte(n)}
		got, number, e := signet.Try(secret, text, tape)
		if e != api.OK {
			t.Fatalf("P10: Try of the text %d: %d", n, e)
		}
		if mask := maskByHand(secret, got); !bytes.Equal(mask, tape[number]) {
			t.Errorf("P10: z - c s is %v, want the mask %v", mask, tape[number])
		}
		c, _ := signet.Challenge(got[:8])
		key := fmt.Sprint(c, got[8:])
		if other, known := owner[key]; known && other != number {
			t.Errorf("P10: the masks %d and %d have one challenge and one z", other, number)
		}
		owner[key] = number
	}
}
