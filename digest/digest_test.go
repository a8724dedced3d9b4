package digest

import (
	"bytes"
	"hash/fnv"
	"testing"
)

// sumByLibrary takes the library's hash for the loop over the bytes, so that only the end is written twice.
func sumByLibrary(b []byte) []byte {
	h := fnv.New64a()
	h.Write(b)
	n := h.Sum64()
	n ^= n >> 32
	n *= 11400714819323198485
	n ^= n >> 29
	var out []byte
	for shift := 56; shift >= 0; shift -= 8 {
		out = append(out, byte(n>>shift))
	}
	return out
}

func TestSumIsTheDigest(t *testing.T) {
	var b []byte
	for i := range 600 {
		if sum := Of(b...).Sum(); !bytes.Equal(sum[:], sumByLibrary(b)) {
			t.Fatalf("P3: the digest of %v: %v, want %v", b, sum, sumByLibrary(b))
		}
		b = append(b, byte(i*37))
	}
}

func TestAddGoesOnFromABeginning(t *testing.T) {
	begin := Of(1, 2)
	first, second := begin.Add(3).Sum(), begin.Add(4, 5).Sum()
	if first != Of(1, 2, 3).Sum() || second != Of(1, 2, 4, 5).Sum() {
		t.Errorf("P3: two ends of one beginning: %v, %v", first, second)
	}
	if begin.Add() != begin {
		t.Error("P3: no further bytes make another state")
	}
}

func TestReaderNumbersItsBlocksByTwoBytes(t *testing.T) {
	r := Of('x').Stream()
	for block := range 1 << 16 {
		want := Of('x', byte(block>>8), byte(block)).Sum()
		for i := range want {
			if got := r.Next(); got != want[i] {
				t.Fatalf("P3: the byte %d of the block %d: %d, want %d", i, block, got, want[i])
			}
		}
	}
}

func TestReadersOfOneStateAreApart(t *testing.T) {
	s := Of('x')
	a, b := s.Stream(), s.Stream()
	for range 20 {
		a.Next()
	}
	if got, want := b.Next(), Of('x', 0, 0).Sum()[0]; got != want {
		t.Errorf("P3: the first byte of a second reader: %d, want %d", got, want)
	}
}
