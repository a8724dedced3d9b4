package signet_test

import (
	"bytes"
	"math"
	"sync"
	"testing"

	"signet/api"
	"signet/signet"
)

// What holds for every call: P1 and P2.

// listCall is a call that takes one list; its answer is told as a list of its own.
type listCall struct {
	name string
	call func(b []byte) []byte
}

func told(p api.Poly, e api.Errno) []byte {
	out := []byte{byte(e)}
	for _, r := range p {
		out = append(out, byte(r>>8), byte(r))
	}
	return out
}

func listCalls() []listCall {
	stream := func(n int) func(b []byte) []byte {
		return func(b []byte) []byte {
			out, _ := signet.Stream(b, n)
			return out
		}
	}
	return []listCall{
		{"Digest", signet.Digest},
		{"Stream of 0", stream(0)},
		{"Stream of 13", stream(13)},
		{"Stream of 1000", stream(1000)},
		{"Stream of -1", stream(-1)},
		{"Stream of 1001", stream(1001)},
		{"Challenge", func(b []byte) []byte { return told(signet.Challenge(b)) }},
	}
}

// roomy is a list of n bytes with bytes before it and behind it, and all of them.
func roomy(n int) (list []byte, all []byte) {
	all = make([]byte, n+64)
	for i := range all {
		all[i] = byte(200 + 3*i)
	}
	return all[16 : 16+n], all
}

func TestListsHandedInAreNotWrittenInto(t *testing.T) {
	for _, c := range listCalls() {
		for _, n := range []int{0, 1, 7, 8, 9, 300} {
			list, all := roomy(n)
			before := bytes.Clone(all)
			answer := c.call(list)
			if !bytes.Equal(all, before) {
				t.Errorf("P2: %s writes into its list of %d bytes, or around it", c.name, n)
			}
			overwrite(answer)
			if !bytes.Equal(all, before) {
				t.Errorf("P2: the answer of %s shares memory with its list of %d bytes", c.name, n)
			}
		}
	}
}

// overwrite writes into a list and all of its spare room.
func overwrite(b []byte) {
	b = b[:cap(b)]
	for i := range b {
		b[i] ^= 255
	}
}

func TestAnswersShareNoMemory(t *testing.T) {
	for _, c := range listCalls() {
		first := c.call([]byte("8 bytes."))
		second := c.call([]byte("8 bytes."))
		kept := bytes.Clone(second[:cap(second)])
		overwrite(first)
		if !bytes.Equal(second[:cap(second)], kept) {
			t.Errorf("P2: two answers of %s share memory", c.name)
		}
		if third := c.call([]byte("8 bytes.")); !bytes.Equal(third, second) {
			t.Errorf("P2: %s answers otherwise, once its answer was written into: %v, want %v", c.name, third, second)
		}
	}
}

func TestListsAreNotKept(t *testing.T) {
	for _, c := range listCalls() {
		list := []byte("8 bytes.")
		first := c.call(list)
		kept := bytes.Clone(first)
		copy(list, "others: ")
		if !bytes.Equal(first, kept) {
			t.Errorf("P2: the answer of %s changes with its list", c.name)
		}
		if got, want := c.call(list), c.call([]byte("others: ")); !bytes.Equal(got, want) {
			t.Errorf("P2: %s, of a list that was written into: %v, want %v", c.name, got, want)
		}
	}
}

func TestPolynomialsHandedInStay(t *testing.T) {
	a, b := api.Poly{768, 1, 2, 3, 4, 5, 6, 7}, api.Poly{0, 400, 0, 500}
	signet.Mul(a, b)
	if a != (api.Poly{768, 1, 2, 3, 4, 5, 6, 7}) || b != (api.Poly{0, 400, 0, 500}) {
		t.Errorf("P2: Mul leaves %v and %v behind", a, b)
	}
}

// Each round asks the same of every call, with other questions between.
func TestAnswersHangOnArgumentsAlone(t *testing.T) {
	want := everyAnswer()
	var wait sync.WaitGroup
	answers := make([][]byte, 8)
	for i := range answers {
		wait.Add(1)
		go func() {
			defer wait.Done()
			for range 20 {
				signet.Digest([]byte{byte(i)})
				signet.Stream([]byte{byte(i)}, 100*i)
				signet.Mul(api.Poly{i, 5 * i}, api.Poly{768, i})
				signet.Challenge([]byte{1, 2, 3, 4, 5, 6, 7, byte(i)})
				answers[i] = everyAnswer()
			}
		}()
	}
	wait.Wait()
	for i, got := range answers {
		if !bytes.Equal(got, want) {
			t.Errorf("P1: asked again (%d), the calls answer otherwise", i)
		}
	}
}

func everyAnswer() []byte {
	var out []byte
	for _, c := range listCalls() {
		out = append(out, c.call([]byte("8 bytes."))...)
	}
	out = append(out, told(signet.Mul(api.Poly{768, 3, 700}, api.Poly{5, 0, 0, 0, 0, 0, 600, 768}))...)
	for r := range api.Q {
		high, low, _ := signet.Parts(r)
		out = append(out, byte(high), byte(low))
	}
	return out
}

func TestNoCapacityIsSeen(t *testing.T) {
	for _, c := range listCalls() {
		for _, n := range []int{0, 7, 8, 300} {
			list, _ := roomy(n)
			if got, want := c.call(list), c.call(bytes.Clone(list)); !bytes.Equal(got, want) {
				t.Errorf("P1: %s sees what stands behind its list: %v, want %v", c.name, got, want)
			}
		}
	}
}

func TestNoCallPanics(t *testing.T) {
	numbers := []int{math.MinInt, math.MinInt32, -770, -769, -1, 0, 1, 768, 769, 1000, 1001, math.MaxInt32, math.MaxInt}
	for _, n := range numbers {
		if _, _, e := signet.Parts(n); (e == api.OK) != (n >= 0 && n <= 768) {
			t.Errorf("P1: Parts(%d): %d", n, e)
		}
		if out, e := signet.Stream(nil, n); (e == api.OK) != (n >= 0 && n <= 1000) || e != api.OK && out != nil {
			t.Errorf("P1: Stream(nil, %d): %d bytes, %d", n, len(out), e)
		}
		for _, m := range numbers {
			p, e := signet.Mul(api.Poly{n, m}, api.Poly{7: m})
			if fine := n >= 0 && n <= 768 && m >= 0 && m <= 768; (e == api.OK) != fine || !fine && p != (api.Poly{}) {
				t.Errorf("P1: Mul with %d and %d: %v, %d", n, m, p, e)
			}
		}
	}
	long := make([]byte, 1<<20)
	if d := signet.Digest(long); len(d) != 8 {
		t.Errorf("P1: Digest of 2^20 bytes has %d bytes", len(d))
	}
	if out, e := signet.Stream(long, 1000); len(out) != 1000 || e != api.OK {
		t.Errorf("P1: Stream of 2^20 bytes: %d bytes, %d", len(out), e)
	}
	if p, e := signet.Challenge(long); p != (api.Poly{}) || e != api.ErrArg {
		t.Errorf("P1: Challenge of 2^20 bytes: %v, %d", p, e)
	}
}
