package crc_test

import (
	"bytes"
	"hash/crc32"
	"slices"
	"testing"

	"aumbry/crc"
)

// byWords is P4.1 as its words stand, bit by bit.
func byWords(sum uint32, b []byte) uint32 {
	number := sum ^ 0xFFFFFFFF
	for _, c := range b {
		number = number&0xFFFFFF00 | uint32(byte(number)^c)
		for range 8 {
			out := number % 2
			number /= 2
			if out == 1 {
				number ^= 0x82F63B78
			}
		}
	}
	return number ^ 0xFFFFFFFF
}

// library is the same check sum out of Go's own tables, so that no slip of this file's is asked for.
func library(sum uint32, b []byte) uint32 {
	return crc32.Update(sum, crc32.MakeTable(crc32.Castagnoli), b)
}

// mixed are n bytes without an order that is easily seen.
func mixed(n int, seed uint32) []byte {
	b := make([]byte, n)
	for i := range b {
		seed = seed*1664525 + 1013904223
		b[i] = byte(seed >> 24)
	}
	return b
}

// someSums are check sums to go on from: noughts and ones at both ends, each bit alone, each bit left out, and others.
func someSums() []uint32 {
	sums := []uint32{0, 0xFFFFFFFF, 1, 0x80000000, 0x7FFFFFFF, 0xFFFFFF00, 0x000000FF, 0x82F63B78, ^uint32(0x82F63B78), 0xE3069283}
	for bit := range 32 {
		sums = append(sums, 1<<bit, ^(uint32(1) << bit))
	}
	for seed := range uint32(20) {
		sums = append(sums, seed*2654435761+12345)
	}
	return sums
}

// someLists are ordinary ones: noughts, ones, rising, and mixed, of short lengths and of those about powers of 2.
func someLists() [][]byte {
	lists := [][]byte{nil, {}}
	for _, n := range []int{1, 2, 3, 4, 5, 7, 8, 9, 15, 16, 17, 31, 32, 33, 63, 64, 65, 127, 128, 129, 255, 256, 257, 511, 512, 513} {
		rising := make([]byte, n)
		for i := range rising {
			rising[i] = byte(i)
		}
		lists = append(lists, make([]byte, n), bytes.Repeat([]byte{0xFF}, n), rising, mixed(n, uint32(n)))
	}
	return lists
}

// The chapter's examples.
func TestExamples(t *testing.T) {
	if got := crc.Sum(nil); got != 0 {
		t.Errorf("Sum(none) = %#x", got)
	}
	if got := crc.Sum([]byte("123456789")); got != 0xE3069283 {
		t.Errorf("Sum(123456789) = %#x", got)
	}
	if got := crc.More(crc.Sum([]byte("1234")), []byte("56789")); got != 0xE3069283 {
		t.Errorf("More(Sum(1234), 56789) = %#x", got)
	}
}

// P4.1: check sums that are known of CRC-32C, written out.
func TestKnownSums(t *testing.T) {
	rising := make([]byte, 32)
	for i := range rising {
		rising[i] = byte(i)
	}
	falling := slices.Clone(rising)
	slices.Reverse(falling)
	for _, c := range []struct {
		b    []byte
		want uint32
	}{
		{[]byte("a"), 0xC1D04330},
		{[]byte{0}, 0x527D5351},
		{make([]byte, 32), 0x8A9136AA},
		{bytes.Repeat([]byte{0xFF}, 32), 0x62A8AB43},
		{rising, 0x46DD794E},
		{falling, 0x113FDB5C},
		{bytes.Repeat([]byte{0xFF}, 4), 0xFFFFFFFF},
	} {
		if got := crc.Sum(c.b); got != c.want {
			t.Errorf("Sum(% x) = %#x, want %#x", c.b, got, c.want)
		}
	}
}

// P4.1: no bytes, an empty list and none at all: Sum is 0, and More the check sum that it goes on from.
func TestNoBytes(t *testing.T) {
	some := []byte{7, 8, 9}
	for _, none := range [][]byte{nil, {}, make([]byte, 0, 9), some[:0], some[3:]} {
		if got := crc.Sum(none); got != 0 {
			t.Errorf("Sum(%v) = %#x", none, got)
		}
		for _, sum := range someSums() {
			if got := crc.More(sum, none); got != sum {
				t.Errorf("More(%#x, %v) = %#x", sum, none, got)
			}
		}
	}
}

// P4.1: a step by each of the 256 bytes, from every check sum of some.
func TestOneByte(t *testing.T) {
	for i := range 256 {
		b := []byte{byte(i)}
		if got, want := crc.Sum(b), library(0, b); got != want || got != byWords(0, b) {
			t.Errorf("Sum(%d) = %#x, want %#x", i, got, want)
		}
		for _, sum := range someSums() {
			if got, want := crc.More(sum, b), library(sum, b); got != want || got != byWords(sum, b) {
				t.Errorf("More(%#x, %d) = %#x, want %#x", sum, i, got, want)
			}
		}
	}
}

// P4.1: each state of the lowest eight bits meets each byte, so that noughts fall out at every place.
func TestOneByteFromEachLowByte(t *testing.T) {
	for _, high := range []uint32{0, 0xFFFFFF00, 0x80000000, 0x00000100, 0x5A3C9600} {
		for low := range uint32(256) {
			for i := range 256 {
				sum, b := high|low, []byte{byte(i)}
				if got, want := crc.More(sum, b), library(sum, b); got != want {
					t.Fatalf("More(%#x, %d) = %#x, want %#x", sum, i, got, want)
				}
			}
		}
	}
}

// P4.1: all lists of two bytes.
func TestTwoBytes(t *testing.T) {
	for i := range 256 {
		for j := range 256 {
			b := []byte{byte(i), byte(j)}
			if got, want := crc.Sum(b), library(0, b); got != want {
				t.Fatalf("Sum(%v) = %#x, want %#x", b, got, want)
			}
		}
	}
}

// P4.1: ordinary lists, from every check sum of some; Sum is More of 0.
func TestLists(t *testing.T) {
	for _, b := range someLists() {
		if got, want := crc.Sum(b), library(0, b); got != want || got != byWords(0, b) || got != crc.More(0, b) {
			t.Errorf("Sum of %d bytes, % x = %#x, want %#x", len(b), b, got, want)
		}
		for _, sum := range someSums() {
			if got, want := crc.More(sum, b), library(sum, b); got != want || got != byWords(sum, b) {
				t.Errorf("More(%#x, %d bytes, % x) = %#x, want %#x", sum, len(b), b, got, want)
			}
		}
	}
}

// P4.1: where all bits of a check sum are 1, its number is 0, and noughts leave it so; what comes behind them counts all the same.
func TestNoughtStaysNoughtUpToAnotherByte(t *testing.T) {
	for n := range 70 {
		b := make([]byte, n)
		if got := crc.More(0xFFFFFFFF, b); got != 0xFFFFFFFF {
			t.Errorf("More(ones, %d noughts) = %#x", n, got)
		}
		b = append(b, 1, 0, 0, 128, 0)
		if got, want := crc.More(0xFFFFFFFF, b), library(0xFFFFFFFF, b); got != want {
			t.Errorf("More(ones, %d noughts and others) = %#x, want %#x", n, got, want)
		}
	}
}

// P4.1: long lists.
func TestLongLists(t *testing.T) {
	for _, n := range []int{4095, 4096, 4097, 65535, 65536, 65537, 1<<20 + 3, 1 << 23} {
		for name, b := range map[string][]byte{"noughts": make([]byte, n), "ones": bytes.Repeat([]byte{0xFF}, n), "mixed": mixed(n, 77)} {
			if got, want := crc.Sum(b), library(0, b); got != want {
				t.Errorf("Sum of %d bytes, %s = %#x, want %#x", n, name, got, want)
			}
			if got, want := crc.More(0xE3069283, b), library(0xE3069283, b); got != want {
				t.Errorf("More of %d bytes, %s = %#x, want %#x", n, name, got, want)
			}
		}
	}
}

// P4.2: in two parts, cut at each place, both ends among them.
func TestTwoParts(t *testing.T) {
	for _, b := range someLists() {
		whole := crc.Sum(b)
		for cut := range len(b) + 1 {
			if got := crc.More(crc.Sum(b[:cut]), b[cut:]); got != whole {
				t.Fatalf("%d bytes, cut at %d: %#x, want %#x", len(b), cut, got, whole)
			}
		}
	}
}

// P4.2: in many parts, of one length each, of rising lengths, and with parts of no bytes between them.
func TestManyParts(t *testing.T) {
	b := mixed(5000, 3)
	want := library(0, b)
	for _, length := range []int{1, 2, 3, 7, 8, 64, 100, 999, 4999, 5000} {
		sum := crc.Sum(nil)
		for part := range slices.Chunk(b, length) {
			sum = crc.More(crc.More(sum, part), nil)
		}
		if sum != want {
			t.Errorf("in parts of %d: %#x, want %#x", length, sum, want)
		}
	}
	sum, left := crc.Sum(nil), b
	for length := 0; len(left) > 0; length++ {
		n := min(length, len(left))
		sum, left = crc.More(sum, left[:n]), left[n:]
	}
	if sum != want {
		t.Errorf("in parts of rising lengths: %#x, want %#x", sum, want)
	}
}

// P4.2: a long list, in two parts and in many.
func TestLongListInParts(t *testing.T) {
	b := mixed(1<<20+5, 9)
	want := crc.Sum(b)
	for _, cut := range []int{1, 4096, 1 << 19, 1 << 20, len(b) - 1} {
		if got := crc.More(crc.Sum(b[:cut]), b[cut:]); got != want {
			t.Errorf("cut at %d: %#x, want %#x", cut, got, want)
		}
	}
	sum := uint32(0)
	for part := range slices.Chunk(b, 4096) {
		sum = crc.More(sum, part)
	}
	if sum != want {
		t.Errorf("in parts of 4096: %#x, want %#x", sum, want)
	}
}

// P4.2: one byte at each place of a list is each other one: all 256 lists have check sums of their own, from each check sum ahead.
func TestOneByteIsAnother(t *testing.T) {
	for _, n := range []int{1, 2, 3, 4, 5, 8, 9, 33, 100} {
		for _, ahead := range []uint32{0, 0xFFFFFFFF, 0xE3069283} {
			for place := range n {
				b := mixed(n, uint32(n))
				lists := make(map[uint32]int)
				for i := range 256 {
					b[place] = byte(i)
					sum := crc.More(ahead, b)
					if other, ok := lists[sum]; ok {
						t.Fatalf("%d bytes, at %d: %d and %d have the sum %#x", n, place, other, i, sum)
					}
					lists[sum] = i
				}
			}
		}
	}
}

// P4.2: the same in a long list, at places of all its parts; the byte put back, its check sum is back.
func TestOneByteOfManyIsAnother(t *testing.T) {
	b := mixed(1<<16, 21)
	whole := crc.Sum(b)
	for _, place := range []int{0, 1, 4095, 4096, 1 << 15, 1<<16 - 2, 1<<16 - 1} {
		for _, by := range []byte{1, 0x80, 0xFF, 0x10} {
			b[place] ^= by
			if got := crc.Sum(b); got == whole || got != library(0, b) {
				t.Errorf("%d at %d: %#x, whole %#x", by, place, got, whole)
			}
			b[place] ^= by
		}
	}
	if got := crc.Sum(b); got != whole {
		t.Errorf("put back: %#x, want %#x", got, whole)
	}
}

// R4: what is handed in stays as it was, its spare room and what stands about it too.
func TestArgumentsStay(t *testing.T) {
	for _, inner := range someLists() {
		whole := append(append([]byte{0x71, 0x72, 0x73}, inner...), 0x74, 0x75, 0x76, 0x77)
		before := slices.Clone(whole)
		b := whole[3 : 3+len(inner)]
		crc.Sum(b)
		for _, sum := range someSums() {
			crc.More(sum, b)
		}
		if !bytes.Equal(whole, before) {
			t.Fatalf("%d bytes: % x, were % x", len(inner), whole, before)
		}
	}
}

// R4, R5: what was handed in is not kept: the same list with other bytes has their check sum, and the first bytes' comes again.
func TestArgumentsAreNotKept(t *testing.T) {
	b := []byte("123456789")
	first := crc.Sum(b)
	copy(b, "987654321")
	if got, want := crc.Sum(b), library(0, b); got != want || got == first {
		t.Errorf("Sum(%s) = %#x, want %#x", b, got, want)
	}
	copy(b, "123456789")
	if got := crc.Sum(b); got != first {
		t.Errorf("Sum(%s) = %#x, want %#x", b, got, first)
	}
}

// R5: neither spare room nor what stands about a list tells in its check sum.
func TestCapacityDoesNotTell(t *testing.T) {
	for _, b := range someLists() {
		want := crc.Sum(slices.Clip(b))
		for _, around := range []byte{0, 1, 0xFF} {
			whole := append(append([]byte{around, around}, b...), around, around, around)
			if got := crc.Sum(whole[2 : 2+len(b)]); got != want {
				t.Fatalf("%d bytes amid %d: %#x, want %#x", len(b), around, got, want)
			}
			if got := crc.Sum(whole[2 : 2+len(b) : 2+len(b)]); got != want {
				t.Fatalf("%d bytes without spare room: %#x, want %#x", len(b), got, want)
			}
		}
	}
}
