package signet_test

import (
	"bytes"
	"math"
	"slices"
	"sync"
	"testing"

	"signet/api"
	"signet/signet"
)

// What holds for every call: P1 and P2.

// listCall is a call that takes one list; its answer is told as a list of its own.
type listCall struct {
	name string
	call func(b []byte) []byte
}

func told(p api.Poly, e api.Errno) []byte {
	out := []byte{byte(e)}
	for _, r := range p {
		out = append(out, byte(r>>8), byte(r))
	}
	return out
}

func listCalls() []listCall {
	stream := func(n int) func(b []byte) []byte {
		return func(b []byte) []byte {
			out, _ := signet.Stream(b, n)
			return out
		}
	}
	return []listCall{
		{"Digest", signet.Digest},
		{"Stream of 0", stream(0)},
		{"Stream of 13", stream(13)},
		{"Stream of 1000", stream(1000)},
		{"Stream of -1", stream(-1)},
		{"Stream of 1001", stream(1001)},
		{"Challenge", func(b []byte) []byte { return told(signet.Challenge(b)) }},
		{"Keys, the public one", func(b []byte) []byte { public, _, _ := signet.Keys(b); return public }},
		{"Keys, the secret one", func(b []byte) []byte { _, secret, _ := signet.Keys(b); return secret }},
		{"Try, of a text", func(b []byte) []byte { return tried(goodSecret(), b, [][]byte{loud(), still()}) }},
		{"Try, of a secret key", func(b []byte) []byte { return tried(b, nil, [][]byte{still()}) }},
		{"Try, with a mask", func(b []byte) []byte { return tried(goodSecret(), nil, [][]byte{loud(), b, still()}) }},
		{"Sign, of a text", func(b []byte) []byte { return signed(goodSecret(), b, []byte("saltsalt")) }},
		{"Sign, of a secret key", func(b []byte) []byte { return signed(b, nil, []byte("saltsalt")) }},
		{"Sign, with a salt", func(b []byte) []byte { return signed(goodSecret(), []byte("a text"), b) }},
		{"Verify, of a public key", func(b []byte) []byte { return verified(b, nil, goodSignature()) }},
		{"Verify, of a text", func(b []byte) []byte { return verified(goodPublic(), b, goodSignature()) }},
		{"Verify, of a signature", func(b []byte) []byte { return verified(goodPublic(), []byte("8 bytes."), b) }},
	}
}

// goodSecret is a secret key in memory of its own.
func goodSecret() []byte {
	_, secret, _ := signet.Keys([]byte("abcdefgh"))
	return secret
}

func goodPublic() []byte {
	public, _, _ := signet.Keys([]byte("abcdefgh"))
	return public
}

// goodSignature is of the text that most of these tests hand in.
func goodSignature() []byte {
	return signed(goodSecret(), []byte("8 bytes."), []byte("saltsalt"))
}

func verified(public []byte, text []byte, signature []byte) []byte {
	holds, e := signet.Verify(public, text, signature)
	if holds {
		return []byte{byte(e), 1}
	}
	return []byte{byte(e), 0}
}

func tried(secret []byte, text []byte, tape [][]byte) []byte {
	signature, _, _ := signet.Try(secret, text, tape)
	return signature
}

func signed(secret []byte, text []byte, salt []byte) []byte {
	signature, _ := signet.Sign(secret, text, salt)
	return signature
}

// roomy is a list of n bytes with bytes before it and behind it, and all of them.
func roomy(n int) (list []byte, all []byte) {
	all = make([]byte, n+64)
	for i := range all {
		all[i] = byte(200 + 3*i)
	}
	return all[16 : 16+n], all
}

func TestListsHandedInAreNotWrittenInto(t *testing.T) {
	for _, c := range listCalls() {
		for _, n := range []int{0, 1, 7, 8, 9, 16, 24, 40, 72, 300} {
			list, all := roomy(n)
			before := bytes.Clone(all)
			answer := c.call(list)
			if !bytes.Equal(all, before) {
				t.Errorf("P2: %s writes into its list of %d bytes, or around it", c.name, n)
			}
			overwrite(answer)
			if !bytes.Equal(all, before) {
				t.Errorf("P2: the answer of %s shares memory with its list of %d bytes", c.name, n)
			}
		}
	}
}

// overwrite writes into a list and all of its spare room.
func overwrite(b []byte) {
	b = b[:cap(b)]
	for i := range b {
		b[i] ^= 255
	}
}

// A buffer has lists one behind the other, so that each one's spare room is what follows it.
type buffer struct {
	all  []byte
	kept []byte
}

func (b *buffer) list(content []byte) []byte {
	begin := len(b.all)
	b.all = append(b.all, content...)
	b.all = append(b.all, "spare room"...)
	b.kept = bytes.Clone(b.all)
	return b.all[begin : begin+len(content)]
}

func newBuffer() *buffer {
	return &buffer{all: make([]byte, 0, 10000)} // enough for all of a test, so that lists stay where they are
}

func (b *buffer) changed() bool {
	return !bytes.Equal(b.all, b.kept)
}

// told60 is a tape of which the last mask is told.
func told60(b *buffer) [][]byte {
	var tape [][]byte
	for _, mask := range loudThenStill(59) {
		tape = append(tape, b.list(mask))
	}
	return tape
}

func TestKeyTextAndTapeAreNotWrittenInto(t *testing.T) {
	for _, text := range [][]byte{nil, []byte("a text"), make([]byte, 200), make([]byte, 201)} {
		for _, last := range [][]byte{still(), loud(), still()[:15], bytes.Repeat([]byte{128}, 16)} {
			b := newBuffer()
			secret, text := b.list(goodSecret()), b.list(text)
			lists := append(told60(b), b.list([]byte("behind the tape")))
			lists[59] = b.list(last)
			before := slices.Clone(lists)
			answer, _, e := signet.Try(secret, text, lists[:60])
			if b.changed() {
				t.Errorf("P2: Try (%d) writes into a list, or behind it", e)
			}
			overwrite(answer)
			if b.changed() {
				t.Errorf("P2: the answer of Try (%d) shares memory with a list", e)
			}
			for i, list := range lists {
				if len(list) != len(before[i]) || &list[0] != &before[i][0] {
					t.Errorf("P2: Try (%d) writes into its tape, or behind it, at %d", e, i)
				}
			}
		}
	}
}

func TestKeyTextAndSaltAreNotWrittenInto(t *testing.T) {
	for _, text := range [][]byte{nil, []byte("a text"), make([]byte, 200), make([]byte, 201)} {
		for _, salt := range []string{"saltsalt", "saltsal", ""} {
			b := newBuffer()
			secret, text, salt := b.list(goodSecret()), b.list(text), b.list([]byte(salt))
			answer, e := signet.Sign(secret, text, salt)
			if b.changed() {
				t.Errorf("P2: Sign (%d) writes into a list, or behind it", e)
			}
			overwrite(answer)
			if b.changed() {
				t.Errorf("P2: the answer of Sign (%d) shares memory with a list", e)
			}
		}
	}
}

func TestKeyTextAndSignatureAreNotWrittenInto(t *testing.T) {
	for _, text := range [][]byte{nil, []byte("8 bytes."), make([]byte, 200), make([]byte, 201)} {
		for _, signature := range [][]byte{goodSignature(), goodSignature()[:23], nil, make([]byte, 24), append(goodSignature(), 0)} {
			for _, public := range [][]byte{goodPublic(), goodPublic()[:39], bytes.Repeat([]byte{255}, 40)} {
				b := newBuffer()
				public, text, signature := b.list(public), b.list(text), b.list(signature)
				holds, e := signet.Verify(public, text, signature)
				if b.changed() {
					t.Errorf("P2: Verify (%v, %d) writes into a list, or behind it", holds, e)
				}
			}
		}
	}
}

func TestTheTwoKeysShareNoMemory(t *testing.T) {
	public, secret, _ := signet.Keys([]byte("abcdefgh"))
	kept := bytes.Clone(secret[:cap(secret)])
	overwrite(public)
	if !bytes.Equal(secret[:cap(secret)], kept) {
		t.Errorf("P2: the public key shares memory with the secret one")
	}
	public, secret, _ = signet.Keys([]byte("abcdefgh"))
	kept = bytes.Clone(public[:cap(public)])
	overwrite(secret)
	if !bytes.Equal(public[:cap(public)], kept) {
		t.Errorf("P2: the secret key shares memory with the public one")
	}
}

// What is handed in is written into after the call; neither its answer nor the next call knows of that.
func TestKeyTextAndTapeAreNotKept(t *testing.T) {
	b := newBuffer()
	secret, text, salt := b.list(goodSecret()), b.list([]byte("a text")), b.list([]byte("saltsalt"))
	tape := told60(b)
	answer, _, _ := signet.Try(secret, text, tape)
	signature, _ := signet.Sign(secret, text, salt)
	kept := append(bytes.Clone(answer), signature...)
	overwrite(b.all)
	clear(tape)
	if !bytes.Equal(append(bytes.Clone(answer), signature...), kept) {
		t.Errorf("P2: an answer changes with what was handed in")
	}
	if _, _, e := signet.Try(secret, text, [][]byte{still()}); e != api.ErrKey {
		t.Errorf("P2: Try of a secret key that was written into: %d, want ErrKey", e)
	}
	again := tried(goodSecret(), []byte("a text"), [][]byte{still()})
	if again = append(again, signed(goodSecret(), []byte("a text"), []byte("saltsalt"))...); !bytes.Equal(again, kept) {
		t.Errorf("P2: asked again, the calls answer %v, want %v", again, kept)
	}
}

// What Verify was asked of does not outlast the call: written into, the same lists are other questions.
func TestKeyTextAndSignatureAreNotKept(t *testing.T) {
	for which := range 3 {
		lists := [][]byte{goodPublic(), []byte("8 bytes."), goodSignature()}
		if holds, e := signet.Verify(lists[0], lists[1], lists[2]); !holds || e != api.OK {
			t.Fatalf("P9: Verify: %v, %d, want true", holds, e)
		}
		lists[which][0] ^= 1
		if holds, e := signet.Verify(lists[0], lists[1], lists[2]); holds || e != api.OK {
			t.Errorf("P2: Verify, its list %d written into: %v, %d, want false", which, holds, e)
		}
		lists[which][0] ^= 1
		if holds, e := signet.Verify(lists[0], lists[1], lists[2]); !holds || e != api.OK {
			t.Errorf("P1: Verify, asked again: %v, %d, want true", holds, e)
		}
	}
}

// All arguments may be the same memory.
func TestListsMayShareMemory(t *testing.T) {
	secret := goodSecret()
	apart := signed(goodSecret(), goodSecret(), goodSecret()[:8])
	if got := signed(secret, secret, secret[:8]); !bytes.Equal(got, apart) || got == nil {
		t.Errorf("P2: Sign, its lists in the same memory: %v, want %v", got, apart)
	}
	mask := still()
	apart = tried(goodSecret(), still(), [][]byte{loud(), still()})
	if got := tried(secret, mask, [][]byte{loud(), mask, mask}); !bytes.Equal(got, apart) || got == nil {
		t.Errorf("P2: Try, its lists in the same memory: %v, want %v", got, apart)
	}
	all := joined(goodPublic(), signed(goodSecret(), goodPublic(), []byte("saltsalt")))
	if holds, e := signet.Verify(all[:40], all[:40], all[40:]); !holds || e != api.OK {
		t.Errorf("P2: Verify, its lists in the same memory: %v, %d, want true", holds, e)
	}
}

func TestAnswersShareNoMemory(t *testing.T) {
	for _, c := range listCalls() {
		first := c.call([]byte("8 bytes."))
		second := c.call([]byte("8 bytes."))
		kept := bytes.Clone(second[:cap(second)])
		overwrite(first)
		if !bytes.Equal(second[:cap(second)], kept) {
			t.Errorf("P2: two answers of %s share memory", c.name)
		}
		if third := c.call([]byte("8 bytes.")); !bytes.Equal(third, second) {
			t.Errorf("P2: %s answers otherwise, once its answer was written into: %v, want %v", c.name, third, second)
		}
	}
}

func TestListsAreNotKept(t *testing.T) {
	for _, c := range listCalls() {
		list := []byte("8 bytes.")
		first := c.call(list)
		kept := bytes.Clone(first)
		copy(list, "others: ")
		if !bytes.Equal(first, kept) {
			t.Errorf("P2: the answer of %s changes with its list", c.name)
		}
		if got, want := c.call(list), c.call([]byte("others: ")); !bytes.Equal(got, want) {
			t.Errorf("P2: %s, of a list that was written into: %v, want %v", c.name, got, want)
		}
	}
}

func TestPolynomialsHandedInStay(t *testing.T) {
	a, b := api.Poly{768, 1, 2, 3, 4, 5, 6, 7}, api.Poly{0, 400, 0, 500}
	signet.Mul(a, b)
	if a != (api.Poly{768, 1, 2, 3, 4, 5, 6, 7}) || b != (api.Poly{0, 400, 0, 500}) {
		t.Errorf("P2: Mul leaves %v and %v behind", a, b)
	}
}

// Each round asks the same of every call, with other questions between.
func TestAnswersHangOnArgumentsAlone(t *testing.T) {
	want := everyAnswer()
	var wait sync.WaitGroup
	answers := make([][]byte, 8)
	for i := range answers {
		wait.Add(1)
		go func() {
			defer wait.Done()
			for range 20 {
				signet.Digest([]byte{byte(i)})
				signet.Stream([]byte{byte(i)}, 100*i)
				signet.Mul(api.Poly{i, 5 * i}, api.Poly{768, i})
				signet.Challenge([]byte{1, 2, 3, 4, 5, 6, 7, byte(i)})
				public, secret, _ := signet.Keys([]byte{1, 2, 3, 4, 5, 6, 7, byte(i)})
				signet.Try(secret, []byte{byte(i)}, [][]byte{maskOf(i), still()})
				signature, _ := signet.Sign(secret, []byte{byte(i)}, secret[:8])
				signet.Verify(public, []byte{byte(i)}, signature)
				answers[i] = everyAnswer()
			}
		}()
	}
	wait.Wait()
	for i, got := range answers {
		if !bytes.Equal(got, want) {
			t.Errorf("P1: asked again (%d), the calls answer otherwise", i)
		}
	}
}

func everyAnswer() []byte {
	var out []byte
	for _, c := range listCalls() {
		out = append(out, c.call([]byte("8 bytes."))...)
	}
	tape := masksOf(60)
	for n := range 5 {
		signature, number, e := signet.Try(goodSecret(), []byte{byte(n)}, tape)
		out = append(append(out, signature...), byte(number), byte(e))
		out = append(out, signed(goodSecret(), []byte{byte(n)}, []byte("saltsalt"))...)
		out = append(out, verified(goodPublic(), []byte{byte(n)}, signature)...)
	}
	out = append(out, told(signet.Mul(api.Poly{768, 3, 700}, api.Poly{5, 0, 0, 0, 0, 0, 600, 768}))...)
	for r := range api.Q {
		high, low, _ := signet.Parts(r)
		out = append(out, byte(high), byte(low))
	}
	return out
}

func TestNoCapacityIsSeen(t *testing.T) {
	for _, c := range listCalls() {
		for _, n := range []int{0, 7, 8, 16, 24, 40, 72, 300} {
			list, _ := roomy(n)
			if got, want := c.call(list), c.call(bytes.Clone(list)); !bytes.Equal(got, want) {
				t.Errorf("P1: %s sees what stands behind its list: %v, want %v", c.name, got, want)
			}
		}
	}
}

func TestNoCallPanics(t *testing.T) {
	numbers := []int{math.MinInt, math.MinInt32, -770, -769, -1, 0, 1, 768, 769, 1000, 1001, math.MaxInt32, math.MaxInt}
	for _, n := range numbers {
		if _, _, e := signet.Parts(n); (e == api.OK) != (n >= 0 && n <= 768) {
			t.Errorf("P1: Parts(%d): %d", n, e)
		}
		if out, e := signet.Stream(nil, n); (e == api.OK) != (n >= 0 && n <= 1000) || e != api.OK && out != nil {
			t.Errorf("P1: Stream(nil, %d): %d bytes, %d", n, len(out), e)
		}
		for _, m := range numbers {
			p, e := signet.Mul(api.Poly{n, m}, api.Poly{7: m})
			if fine := n >= 0 && n <= 768 && m >= 0 && m <= 768; (e == api.OK) != fine || !fine && p != (api.Poly{}) {
				t.Errorf("P1: Mul with %d and %d: %v, %d", n, m, p, e)
			}
		}
	}
	long := make([]byte, 1<<20)
	if d := signet.Digest(long); len(d) != 8 {
		t.Errorf("P1: Digest of 2^20 bytes has %d bytes", len(d))
	}
	if out, e := signet.Stream(long, 1000); len(out) != 1000 || e != api.OK {
		t.Errorf("P1: Stream of 2^20 bytes: %d bytes, %d", len(out), e)
	}
	for _, list := range [][]byte{nil, {}, {0}, make([]byte, 8), make([]byte, 16), make([]byte, 24), make([]byte, 40), make([]byte, 72), bytes.Repeat([]byte{255}, 72), goodPublic(), goodSecret(), goodSignature(), long} {
		for _, other := range [][]byte{nil, {0}, make([]byte, 8), make([]byte, 16), bytes.Repeat([]byte{255}, 24), long} {
			for _, secret := range [][]byte{list, goodSecret()} {
				noPanic(t, secret, list, other)
			}
		}
	}
	if p, e := signet.Challenge(long); p != (api.Poly{}) || e != api.ErrArg {
		t.Errorf("P1: Challenge of 2^20 bytes: %v, %d", p, e)
	}
}

// noPanic asks all calls that make or use keys; beside an error there is nothing.
func noPanic(t *testing.T, secret []byte, list []byte, other []byte) {
	t.Helper()
	if public, key, e := signet.Keys(list); e != api.OK && (public != nil || key != nil) {
		t.Errorf("P1: Keys of %d bytes: %d, and something", len(list), e)
	}
	for _, tape := range [][][]byte{nil, {nil}, {list}, {list, other}, {still(), list, other}, make([][]byte, 61), slices.Repeat([][]byte{list}, 60)} {
		if signature, number, e := signet.Try(secret, other, tape); e != api.OK && (signature != nil || number != 0) || e == api.OK && len(signature) != 24 {
			t.Errorf("P1: Try: %v, %d, %d", signature, number, e)
		}
	}
	if signature, e := signet.Sign(secret, list, other); e != api.OK && signature != nil || e == api.OK && len(signature) != 24 {
		t.Errorf("P1: Sign: %v, %d", signature, e)
	}
	for _, public := range [][]byte{secret, list, goodPublic()} {
		if holds, e := signet.Verify(public, list, other); holds {
			t.Errorf("P1: Verify: %v, %d", holds, e)
		}
		if holds, e := signet.Verify(public, other, list); holds {
			t.Errorf("P1: Verify: %v, %d", holds, e)
		}
	}
}
