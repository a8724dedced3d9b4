package signet_test

import (
	"bytes"
	"math"
	"testing"

	"signet/api"
	"signet/signet"
)

// The bytes that are written out in these tests were worked out from the document's words by another program.

func TestDigest(t *testing.T) {
	for _, c := range []struct {
		b    []byte
		want []byte
	}{
		{nil, []byte{133, 112, 226, 80, 254, 76, 36, 115}},
		{[]byte{}, []byte{133, 112, 226, 80, 254, 76, 36, 115}},
		{[]byte{0}, []byte{113, 217, 36, 24, 83, 97, 50, 209}},
		{[]byte{255, 255, 255}, []byte{62, 232, 97, 195, 92, 227, 233, 46}},
		{[]byte("small lattices"), []byte{248, 85, 17, 81, 103, 205, 117, 218}},
	} {
		if got := signet.Digest(c.b); !bytes.Equal(got, c.want) {
			t.Errorf("P3: Digest(%v) = %v, want %v", c.b, got, c.want)
		}
	}
}

func TestStream(t *testing.T) {
	whole, e := signet.Stream([]byte("x"), api.MaxStream)
	if len(whole) != 1000 || e != api.OK {
		t.Fatalf("P3: Stream(x, 1000): %d bytes, %d", len(whole), e)
	}
	if begin := []byte{75, 208, 231, 18, 86, 45, 75, 254, 134, 1, 250, 5, 245, 134, 7, 151, 51, 15, 107, 73}; !bytes.HasPrefix(whole, begin) {
		t.Errorf("P3: Stream(x, 1000) begins with %v, want %v", whole[:20], begin)
	}
	if end := []byte{219, 99, 90, 248, 214, 25, 140, 122}; !bytes.HasSuffix(whole, end) {
		t.Errorf("P3: Stream(x, 1000) ends with %v, want %v", whole[992:], end)
	}
	for n := range 1001 {
		if got, e := signet.Stream([]byte("x"), n); !bytes.Equal(got, whole[:n]) || e != api.OK {
			t.Fatalf("P3: Stream(x, %d): %v, %d", n, got, e)
		}
	}
	nothing := []byte{6, 81, 203, 64, 27, 87, 4, 51, 63, 75, 230, 226, 67, 36, 153, 28}
	if got, e := signet.Stream(nil, 16); !bytes.Equal(got, nothing) || e != api.OK {
		t.Errorf("P3: the stream of nothing: %v, %d, want %v", got, e, nothing)
	}
}

func TestStreamOfAWrongLength(t *testing.T) {
	for _, n := range []int{-1, 1001, math.MaxInt, math.MinInt} {
		if got, e := signet.Stream([]byte("x"), n); got != nil || e != api.ErrArg {
			t.Errorf("P3: Stream(x, %d): %v, %d, want nothing and ErrArg", n, got, e)
		}
	}
}

func TestMul(t *testing.T) {
	all := api.Poly{768, 768, 768, 768, 768, 768, 768, 768}
	for _, c := range []struct{ a, b, want api.Poly }{
		{api.Poly{0, 1}, api.Poly{0, 0, 0, 0, 0, 0, 0, 1}, api.Poly{768}},
		{api.Poly{2, 3}, api.Poly{5, 1}, api.Poly{10, 17, 3}},
		{api.Poly{}, all, api.Poly{}},
		{api.Poly{1}, all, all},
		{api.Poly{768}, all, api.Poly{1, 1, 1, 1, 1, 1, 1, 1}},
		{all, all, api.Poly{763, 765, 767, 0, 2, 4, 6, 8}},
	} {
		if got, e := signet.Mul(c.a, c.b); got != c.want || e != api.OK {
			t.Errorf("P4: Mul(%v, %v): %v, %d, want %v", c.a, c.b, got, e, c.want)
		}
		if got, e := signet.Mul(c.b, c.a); got != c.want || e != api.OK {
			t.Errorf("P4: Mul(%v, %v): %v, %d, want %v", c.b, c.a, got, e, c.want)
		}
	}
}

// mulByHand multiplies term by term: X to the power 8 is -1.
func mulByHand(a api.Poly, b api.Poly) api.Poly {
	var p api.Poly
	for i, x := range a {
		for j, y := range b {
			if i+j >= 8 {
				y = 769 - y
			}
			p[(i+j)%8] = (p[(i+j)%8] + x*y) % 769
		}
	}
	return p
}

func polyOf(begin int) api.Poly {
	stream, _ := signet.Stream([]byte{byte(begin >> 8), byte(begin)}, 16)
	var p api.Poly
	for i := range p {
		p[i] = (int(stream[2*i])<<8 + int(stream[2*i+1])) % 769
	}
	return p
}

func TestMulOfManyPolynomials(t *testing.T) {
	for n := range 20000 {
		a, b := polyOf(2*n), polyOf(2*n+1)
		if got, e := signet.Mul(a, b); got != mulByHand(a, b) || e != api.OK {
			t.Fatalf("P4: Mul(%v, %v): %v, %d, want %v", a, b, got, e, mulByHand(a, b))
		}
	}
}

func TestMulOfAWrongCoefficient(t *testing.T) {
	for i := range api.Degree {
		for _, wrong := range []int{-1, 769, math.MaxInt, math.MinInt} {
			p := api.Poly{1, 2, 3, 4, 5, 6, 7, 8}
			p[i] = wrong
			if got, e := signet.Mul(p, api.Poly{1}); got != (api.Poly{}) || e != api.ErrArg {
				t.Errorf("P4: Mul(%v, 1): %v, %d, want nothing and ErrArg", p, got, e)
			}
			if got, e := signet.Mul(api.Poly{}, p); got != (api.Poly{}) || e != api.ErrArg {
				t.Errorf("P4: Mul(0, %v): %v, %d, want nothing and ErrArg", p, got, e)
			}
		}
	}
}

func TestParts(t *testing.T) {
	for _, c := range [][3]int{{0, 0, 0}, {1, 0, 1}, {48, 0, 48}, {49, 1, -47}, {96, 1, 0}, {144, 1, 48}, {145, 2, -47}, {384, 4, 0}, {624, 6, 48}, {625, 7, -47}, {720, 7, 48}, {721, 0, -48}, {722, 0, -47}, {767, 0, -2}, {768, 0, -1}} {
		if high, low, e := signet.Parts(c[0]); high != c[1] || low != c[2] || e != api.OK {
			t.Errorf("P4: Parts(%d): %d, %d, %d, want %d, %d", c[0], high, low, e, c[1], c[2])
		}
	}
}

func TestPartsOfAWrongNumber(t *testing.T) {
	for _, r := range []int{-1, -48, 769, math.MaxInt, math.MinInt} {
		if high, low, e := signet.Parts(r); high != 0 || low != 0 || e != api.ErrArg {
			t.Errorf("P4: Parts(%d): %d, %d, %d, want nothing and ErrArg", r, high, low, e)
		}
	}
}

func TestChallenge(t *testing.T) {
	for _, c := range []struct {
		tilde []byte
		want  api.Poly
	}{
		{[]byte{0, 0, 0, 0, 0, 0, 0, 0}, api.Poly{0, 0, 0, 0, 1, 0, 1, 0}},
		{[]byte{0, 1, 2, 3, 4, 5, 6, 7}, api.Poly{0, 0, 1, 0, 0, 768, 0, 0}},
		{[]byte{255, 255, 255, 255, 255, 255, 255, 255}, api.Poly{0, 1, 0, 0, 0, 0, 0, 768}},
		// one byte is passed over, then two, four (all of a block is read), five and six (more than a block is read)
		{[]byte{0, 0, 0, 0, 0, 0, 0, 6}, api.Poly{0, 768, 1, 0, 0, 0, 0, 0}},
		{[]byte{0, 0, 0, 0, 0, 0, 0, 69}, api.Poly{0, 768, 768, 0, 0, 0, 0, 0}},
		{[]byte{0, 0, 0, 0, 0, 0, 6, 67}, api.Poly{0, 0, 0, 0, 0, 768, 768, 0}},
		{[]byte{0, 0, 0, 0, 0, 0, 66, 254}, api.Poly{1, 0, 1, 0, 0, 0, 0, 0}},
		{[]byte{0, 0, 0, 0, 0, 6, 17, 150}, api.Poly{0, 0, 0, 768, 0, 0, 0, 768}},
	} {
		if got, e := signet.Challenge(c.tilde); got != c.want || e != api.OK {
			t.Errorf("P4: Challenge(%v): %v, %d, want %v", c.tilde, got, e, c.want)
		}
	}
}

func TestChallengeOfAWrongLength(t *testing.T) {
	for _, n := range []int{0, 1, 7, 9, 16} {
		if got, e := signet.Challenge(make([]byte, n)); got != (api.Poly{}) || e != api.ErrArg {
			t.Errorf("P4: Challenge of %d bytes: %v, %d, want nothing and ErrArg", n, got, e)
		}
	}
	if got, e := signet.Challenge(nil); got != (api.Poly{}) || e != api.ErrArg {
		t.Errorf("P4: Challenge of nil: %v, %d, want nothing and ErrArg", got, e)
	}
}
