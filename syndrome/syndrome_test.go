package syndrome_test

import (
	"bytes"
	"math"
	"slices"
	"testing"

	"aumbry/api"
	"aumbry/bulk"
	"aumbry/gf"
	"aumbry/syndrome"
)

// product multiplies two numbers bit by bit, without package gf.
func product(a, b byte) byte {
	var r byte
	for range 8 {
		if b&1 == 1 {
			r ^= a
		}
		high := a&0x80 != 0
		a <<= 1
		if high {
			a ^= 0x1D
		}
		b >>= 1
	}
	return r
}

// products are told once, for the tests of great codes.
var products = func() (all [256][256]byte) {
	for a := range 256 {
		for b := range 256 {
			all[a][b] = product(byte(a), byte(b))
		}
	}
	return all
}()

// inverses are sought by trying all numbers; that of 0 stays 0.
var inverses = func() (all [256]byte) {
	for a := range 256 {
		for b := range 256 {
			if products[a][b] == 1 {
				all[a] = byte(b)
			}
		}
	}
	return all
}()

// powers are those of all numbers, from that of 0 on: [a][n] is 1 times a, n times over.
var powers = func() (all [256][256]byte) {
	for a := range 256 {
		all[a][0] = 1
		for n := 1; n < 256; n++ {
			all[a][n] = products[all[a][n-1]][a]
		}
	}
	return all
}()

// weightsOf are told shard by shard, as the chapter's section Words says, without packages of the project.
func weightsOf(k, m int) []byte {
	weights := make([]byte, k+m)
	for i := range weights {
		under := byte(1)
		for point := k; point < k+m; point++ {
			if point != i {
				under = products[under][i^point]
			}
		}
		weights[i] = inverses[under]
	}
	return weights
}

// syndromesOf are sums made byte by byte.
func syndromesOf(k, m int, word []byte) []byte {
	weights := weightsOf(k, m)
	sums := make([]byte, m)
	for l := range sums {
		for i, b := range word {
			sums[l] ^= products[products[b][weights[i]]][powers[i][l]]
		}
	}
	return sums
}

// mixed are bytes that hang on the seed and their places alone.
func mixed(seed, length int) []byte {
	b := make([]byte, length)
	x := uint32(seed)*2654435761 + 12345
	for i := range b {
		x ^= x << 13
		x ^= x >> 17
		x ^= x << 5
		b[i] = byte(x >> 11)
	}
	return b
}

func times(word []byte, number byte) []byte {
	other := make([]byte, len(word))
	for i, b := range word {
		other[i] = products[b][number]
	}
	return other
}

func sumOf(a, b []byte) []byte {
	sum := make([]byte, len(a))
	for i := range a {
		sum[i] = a[i] ^ b[i]
	}
	return sum
}

// wordOfCode is a word that bulk makes of a byte of each data shard.
func wordOfCode(t *testing.T, f *gf.Field, k, m int, data []byte) []byte {
	t.Helper()
	shards := make([][]byte, k)
	for j := range shards {
		shards[j] = []byte{data[j]}
	}
	all, err := bulk.Encode(f, k, m, shards)
	if err != api.OK {
		t.Fatalf("Encode(%d, %d): %d", k, m, err)
	}
	return bytes.Join(all, nil)
}

// fits asks bulk whether a word's parity is that of its data.
func fits(t *testing.T, f *gf.Field, k, m int, word []byte) bool {
	t.Helper()
	shards := make([][]byte, len(word))
	for i := range shards {
		shards[i] = word[i : i+1]
	}
	fit, err := bulk.Fits(f, k, m, shards)
	if err != api.OK {
		t.Fatalf("Fits(%d, %d): %d", k, m, err)
	}
	return fit
}

// told are bytes, for a message: how many, if they are many.
func told(b []byte) any {
	if len(b) > 40 {
		return len(b)
	}
	return b
}

// same wants an answer without an error.
func same(t *testing.T, got []byte, err api.Errno, want []byte, name string, k, m int) {
	t.Helper()
	if err != api.OK || !bytes.Equal(got, want) {
		t.Fatalf("%s(%d, %d) = %v, %d, want %v", name, k, m, told(got), err, told(want))
	}
}

// refused wants an error, and nothing beside it.
func refused(t *testing.T, got []byte, err, want api.Errno, name string, k, m int) {
	t.Helper()
	if err != want || len(got) != 0 {
		t.Fatalf("%s(%d, %d) = %v, %d, want error %d", name, k, m, told(got), err, want)
	}
}

// numbers are those at the limits, and others, some of whose sums wrap round.
var numbers = []int{
	0, 1, 2, 3, 127, 128, 129, 200, 255, 256, 257, 511, 1 << 16, 1 << 31, 1 << 32, 1<<32 + 1, 1 << 62,
	-1, -2, -255, -256, -257, -1 << 32, -1 << 62,
	math.MaxInt, math.MaxInt - 1, math.MaxInt - 255, math.MinInt, math.MinInt + 1, math.MinInt + 256,
}

// mayBe asks the words of cauchy.Check one by one, without sums that wrap round.
func mayBe(k, m int) bool {
	return k >= 1 && k <= 256 && m >= 0 && m <= 256-k
}

// smallCodes are all of at most so many shards.
func smallCodes(most int) [][2]int {
	var codes [][2]int
	for k := 1; k <= most; k++ {
		for m := range most - k + 1 {
			codes = append(codes, [2]int{k, m})
		}
	}
	return codes
}

// greatCodes are those with as many shards as may be, and some beside them.
var greatCodes = [][2]int{
	{256, 0}, {255, 1}, {254, 2}, {200, 56}, {129, 127}, {128, 128}, {127, 129}, {56, 200}, {2, 254}, {1, 255}, {40, 30}, {17, 16},
}

// words are some that may be given: of the right length, if many is that, and wrong ones.
func words(many int) [][]byte {
	return [][]byte{nil, {}, {7}, mixed(1, 2), mixed(2, 3), mixed(3, min(max(many, 0), 300)), mixed(4, 255), mixed(5, 256), mixed(6, 257)}
}

// The chapter's examples.
func TestExamples(t *testing.T) {
	f := gf.New()
	got, err := syndrome.Weights(f, 1, 1)
	same(t, got, err, []byte{1, 1}, "Weights", 1, 1)
	got, err = syndrome.Weights(f, 2, 1)
	same(t, got, err, []byte{142, 244, 1}, "Weights", 2, 1)
	got, err = syndrome.Of(f, 1, 1, []byte{5, 5})
	same(t, got, err, []byte{0}, "Of 5 5", 1, 1)
	got, err = syndrome.Of(f, 1, 1, []byte{5, 4})
	same(t, got, err, []byte{1}, "Of 5 4", 1, 1)
	got, err = syndrome.Of(f, 2, 1, []byte{1, 2, 123})
	same(t, got, err, []byte{0}, "Of 1 2 123", 2, 1)
}

// P8.1: weights worked out by hand: the inverses of 2, 3 and 6 are 142, 244 and 122.
func TestWeightsByHand(t *testing.T) {
	f := gf.New()
	for _, c := range []struct {
		k, m int
		want []byte
	}{
		{1, 0, []byte{1}},
		{3, 0, []byte{1, 1, 1}},
		{1, 2, []byte{142, 244, 244}},
		{2, 2, []byte{122, 122, 1, 1}},
		{1, 3, []byte{122, 122, 244, 142}},
	} {
		got, err := syndrome.Weights(f, c.k, c.m)
		same(t, got, err, c.want, "Weights", c.k, c.m)
	}
}

// P8.2, P8.3: syndromes worked out by hand, with the weights 142 244 244 of the points 0, 1 and 2.
func TestSyndromesByHand(t *testing.T) {
	f := gf.New()
	for _, c := range []struct {
		word, want []byte
	}{
		{[]byte{0, 0, 0}, []byte{0, 0}},
		{[]byte{1, 0, 0}, []byte{142, 0}},   // the powers of the point 0 are 1 and 0
		{[]byte{0, 1, 0}, []byte{244, 244}}, // those of 1 are 1 and 1
		{[]byte{0, 0, 1}, []byte{244, 245}}, // those of 2 are 1 and 2
		{[]byte{1, 1, 1}, []byte{142, 1}},
		{[]byte{2, 2, 1}, []byte{0, 0}},
		{[]byte{5, 5, 140}, []byte{0, 0}},
		{[]byte{5, 9, 140}, []byte{4, 4}}, // 12 is the difference, and 4 its third
	} {
		got, err := syndrome.Of(f, 1, 2, c.word)
		same(t, got, err, c.want, "Of", 1, 2)
	}
}

// The section Errors.
func TestNumbers(t *testing.T) {
	f := gf.New()
	if _, err := syndrome.Weights(nil, 1, 1); err != 1 {
		t.Errorf("Weights without a field: %d", err)
	}
	if _, err := syndrome.Weights(f, 0, 1); err != 50 {
		t.Errorf("Weights of no data shards: %d", err)
	}
	if _, err := syndrome.Of(nil, 1, 1, []byte{1, 1}); err != 1 {
		t.Errorf("Of without a field: %d", err)
	}
	if _, err := syndrome.Of(f, 0, 1, []byte{1}); err != 50 {
		t.Errorf("Of no data shards: %d", err)
	}
	if _, err := syndrome.Of(f, 1, 1, []byte{1}); err != 60 {
		t.Errorf("Of a word that is too short: %d", err)
	}
}

// P8.1: all small codes, and all of as many shards as may be.
func TestWeights(t *testing.T) {
	f := gf.New()
	for _, code := range smallCodes(40) {
		got, err := syndrome.Weights(f, code[0], code[1])
		same(t, got, err, weightsOf(code[0], code[1]), "Weights", code[0], code[1])
	}
	for k := 1; k <= api.MaxShards; k++ {
		m := api.MaxShards - k
		got, err := syndrome.Weights(f, k, m)
		same(t, got, err, weightsOf(k, m), "Weights", k, m)
	}
}

// P8.1: each weight times the sums of its point and the parity shards' other points is 1.
func TestWeightsInvert(t *testing.T) {
	f := gf.New()
	for _, code := range append(smallCodes(12), greatCodes...) {
		k, m := code[0], code[1]
		weights, err := syndrome.Weights(f, k, m)
		if err != api.OK || len(weights) != k+m {
			t.Fatalf("Weights(%d, %d) = %v, %d", k, m, told(weights), err)
		}
		for i, weight := range weights {
			for point := k; point < k+m; point++ {
				if point != i {
					weight = product(weight, byte(i)^byte(point))
				}
			}
			if weight != 1 {
				t.Fatalf("Weights(%d, %d): the shard %d has %d, which does not invert", k, m, i, weights[i])
			}
		}
	}
}

// P8.1, P8.2: without parity shards weights are 1, and any word has no syndromes.
func TestNoParity(t *testing.T) {
	f := gf.New()
	for _, k := range []int{1, 2, 3, 9, 255, 256} {
		got, err := syndrome.Weights(f, k, 0)
		same(t, got, err, bytes.Repeat([]byte{1}, k), "Weights", k, 0)
		for _, word := range [][]byte{make([]byte, k), mixed(k, k), bytes.Repeat([]byte{255}, k)} {
			got, err = syndrome.Of(f, k, 0, word)
			same(t, got, err, nil, "Of", k, 0)
		}
	}
}

// P8.1, P8.2: one parity shard: its weight is 1, the others' are Parity's numbers, and the syndrome is the sum of the parity that is and that should be.
func TestOneParity(t *testing.T) {
	f := gf.New()
	for _, k := range []int{1, 2, 3, 9, 100, 255} {
		want := make([]byte, k+1)
		for j := range k {
			want[j] = inverses[k^j]
		}
		want[k] = 1
		got, err := syndrome.Weights(f, k, 1)
		same(t, got, err, want, "Weights", k, 1)
		word := mixed(k, k+1)
		parity := wordOfCode(t, f, k, 1, word[:k])[k]
		got, err = syndrome.Of(f, k, 1, word)
		same(t, got, err, []byte{parity ^ word[k]}, "Of", k, 1)
	}
}

// P8.2: any words, held against sums made byte by byte.
func TestSyndromes(t *testing.T) {
	f := gf.New()
	for _, code := range append(smallCodes(16), greatCodes...) {
		k, m := code[0], code[1]
		for seed := range 4 {
			word := mixed(k*1000+m*10+seed, k+m)
			got, err := syndrome.Of(f, k, m, word)
			same(t, got, err, syndromesOf(k, m, word), "Of", k, m)
		}
		for _, b := range []byte{0, 1, 255} {
			word := bytes.Repeat([]byte{b}, k+m)
			got, err := syndrome.Of(f, k, m, word)
			same(t, got, err, syndromesOf(k, m, word), "Of one byte over and over", k, m)
		}
	}
}

// P8.2: a byte of the point 0 tells in the first syndrome alone, as a power of 0 is 1 and all others of 0 are 0.
func TestPowersOfNought(t *testing.T) {
	f := gf.New()
	for _, code := range [][2]int{{1, 1}, {1, 2}, {2, 2}, {5, 4}, {1, 255}, {128, 128}} {
		k, m := code[0], code[1]
		weight := weightsOf(k, m)[0]
		for b := range 256 {
			word := make([]byte, k+m)
			word[0] = byte(b)
			want := make([]byte, m)
			want[0] = product(byte(b), weight)
			got, err := syndrome.Of(f, k, m, word)
			same(t, got, err, want, "Of a byte of the point 0", k, m)
		}
	}
}

// P8.2: a byte of the greatest point: its powers go on to the last of as many parity shards as may be.
func TestPowersOfTheLast(t *testing.T) {
	f := gf.New()
	const k, m = 1, 255
	weights := weightsOf(k, m)
	for _, i := range []int{1, 2, 128, 254, 255} {
		word := make([]byte, k+m)
		word[i] = 1
		got, err := syndrome.Of(f, k, m, word)
		want := make([]byte, m)
		for l := range want {
			want[l] = product(weights[i], powers[i][l])
		}
		same(t, got, err, want, "Of a byte of a great point", k, m)
	}
}

// P8.3: words of the code have no syndrome but 0.
func TestWordsOfTheCode(t *testing.T) {
	f := gf.New()
	for _, code := range append(smallCodes(16), greatCodes...) {
		k, m := code[0], code[1]
		for seed := range 4 {
			word := wordOfCode(t, f, k, m, mixed(k*100+m*7+seed, k))
			got, err := syndrome.Of(f, k, m, word)
			same(t, got, err, make([]byte, m), "Of a word of the code", k, m)
		}
	}
}

// P8.3: and no other word: all words of two bytes, and all parities of some data.
func TestNoOtherWords(t *testing.T) {
	f := gf.New()
	for a := range 256 {
		for b := range 256 {
			got, err := syndrome.Of(f, 1, 1, []byte{byte(a), byte(b)})
			same(t, got, err, []byte{byte(a ^ b)}, "Of two bytes", 1, 1)
		}
	}
	for _, k := range []int{1, 2, 3} {
		word := make([]byte, k+2)
		copy(word, mixed(k, k))
		whole := wordOfCode(t, f, k, 2, word[:k])
		for a := range 256 {
			for b := range 256 {
				word[k], word[k+1] = byte(a), byte(b)
				got, err := syndrome.Of(f, k, 2, word)
				if err != api.OK || len(got) != 2 || (got[0]|got[1] == 0) != bytes.Equal(word, whole) {
					t.Fatalf("Of(%d, 2, %v) = %v, %d, the word of the code is %v", k, word, got, err, whole)
				}
			}
		}
	}
}

// P8.3: syndromes are all 0 just where bulk.Fits says so, of words with one to all bytes mixed.
func TestAsFits(t *testing.T) {
	f := gf.New()
	for _, code := range append(smallCodes(9), [2]int{40, 30}, [2]int{128, 128}) {
		k, m := code[0], code[1]
		for changed := range k + m + 1 {
			word := wordOfCode(t, f, k, m, mixed(k*50+m, k))
			copy(word, mixed(changed+1, changed))
			got, err := syndrome.Of(f, k, m, word)
			noughts := bytes.Equal(got, make([]byte, m))
			if fit := fits(t, f, k, m, word); err != api.OK || len(got) != m || noughts != fit {
				t.Fatalf("Of(%d, %d) with %d bytes mixed = %v, %d, Fits says %v", k, m, changed, told(got), err, fit)
			}
		}
	}
}

// differenceOf are the syndromes of one byte that is changed: the difference times its weight, times its point's powers.
func differenceOf(k, m, i int, difference byte) []byte {
	weight := weightsOf(k, m)[i]
	syndromes := make([]byte, m)
	for l := range syndromes {
		syndromes[l] = products[products[difference][weight]][powers[i][l]]
	}
	return syndromes
}

// P8.3: any one byte changed, to any other byte, of a word of the code.
func TestOneByte(t *testing.T) {
	f := gf.New()
	for _, code := range smallCodes(7) {
		k, m := code[0], code[1]
		word := wordOfCode(t, f, k, m, mixed(k*20+m, k))
		for i := range word {
			for difference := range 256 {
				word[i] ^= byte(difference)
				got, err := syndrome.Of(f, k, m, word)
				same(t, got, err, differenceOf(k, m, i, byte(difference)), "Of a word with one byte changed", k, m)
				if difference > 0 && m > 0 && (len(got) == 0 || got[0] == 0) {
					t.Fatalf("Of(%d, %d): a changed byte is not told: %v", k, m, got)
				}
				word[i] ^= byte(difference)
			}
		}
	}
}

// P8.3: any one byte changed of words of as many bytes as may be.
func TestOneByteOfGreatCodes(t *testing.T) {
	f := gf.New()
	for _, code := range [][2]int{{256, 0}, {255, 1}, {252, 4}, {240, 16}, {40, 30}} {
		k, m := code[0], code[1]
		word := wordOfCode(t, f, k, m, mixed(k, k))
		for i := range word {
			difference := byte(i*7 + 1 | 1)
			word[i] ^= difference
			got, err := syndrome.Of(f, k, m, word)
			same(t, got, err, differenceOf(k, m, i, difference), "Of a word with one byte changed", k, m)
			word[i] ^= difference
		}
	}
	const k, m = 1, 255
	word := wordOfCode(t, f, k, m, []byte{77})
	for _, i := range []int{0, 1, 2, 100, 254, 255} {
		word[i] ^= 200
		got, err := syndrome.Of(f, k, m, word)
		same(t, got, err, differenceOf(k, m, i, 200), "Of a word with one byte changed", k, m)
		word[i] ^= 200
	}
}

// P8.3: the syndromes of a sum of words are the sums of theirs, and those of a word times a number are theirs times it.
func TestLinear(t *testing.T) {
	f := gf.New()
	for _, code := range append(smallCodes(10), greatCodes...) {
		k, m := code[0], code[1]
		first, second := mixed(k+m, k+m), mixed(k*m+3, k+m)
		one, err := syndrome.Of(f, k, m, first)
		if err != api.OK || len(one) != m {
			t.Fatalf("Of(%d, %d) = %v, %d", k, m, told(one), err)
		}
		two, err := syndrome.Of(f, k, m, second)
		if err != api.OK || len(two) != m {
			t.Fatalf("Of(%d, %d) = %v, %d", k, m, told(two), err)
		}
		got, err := syndrome.Of(f, k, m, sumOf(first, second))
		same(t, got, err, sumOf(one, two), "Of a sum", k, m)
		for _, number := range []byte{0, 1, 2, 3, 29, 128, 255} {
			got, err = syndrome.Of(f, k, m, times(first, number))
			same(t, got, err, times(one, number), "Of a word times a number", k, m)
		}
		got, err = syndrome.Of(f, k, m, make([]byte, k+m))
		same(t, got, err, make([]byte, m), "Of noughts", k, m)
	}
}

// P8.2: a word has k + m bytes, and no other number of them.
func TestHowMany(t *testing.T) {
	f := gf.New()
	for _, code := range [][2]int{{1, 0}, {1, 1}, {2, 0}, {2, 1}, {3, 2}, {2, 5}, {100, 100}, {256, 0}, {128, 128}, {1, 255}} {
		k, m := code[0], code[1]
		for many := range 600 {
			word := mixed(many, many)
			got, err := syndrome.Of(f, k, m, word)
			if many == k+m {
				same(t, got, err, syndromesOf(k, m, word), "Of", k, m)
			} else {
				refused(t, got, err, api.ErrShard, "Of a word that is too short or too long", k, m)
			}
		}
		got, err := syndrome.Of(f, k, m, nil)
		refused(t, got, err, api.ErrShard, "Of no word", k, m)
		got, err = syndrome.Of(f, k, m, make([]byte, 1<<16+k+m))
		refused(t, got, err, api.ErrShard, "Of a word that is far too long", k, m)
	}
}

// P8.1, P8.2, R2: what all pairs of numbers are answered: those that cauchy.Check refuses come ahead of words that may not be.
func TestAllPairs(t *testing.T) {
	f := gf.New()
	for _, k := range numbers {
		for _, m := range numbers {
			got, err := syndrome.Weights(f, k, m)
			if mayBe(k, m) {
				same(t, got, err, weightsOf(k, m), "Weights", k, m)
				continue
			}
			refused(t, got, err, api.ErrConfig, "Weights", k, m)
			for _, word := range words(k + m) {
				got, err = syndrome.Of(f, k, m, word)
				refused(t, got, err, api.ErrConfig, "Of", k, m)
			}
		}
	}
}

// P8.1, P8.2: the edges of k and m one by one, so that they do not hang on mayBe.
func TestCodeEdges(t *testing.T) {
	f := gf.New()
	for _, code := range [][2]int{
		{0, 0}, {0, 1}, {0, 256}, {1, -1}, {2, -1}, {-1, 1}, {-1, 2}, {257, 0}, {256, 1}, {255, 2}, {1, 256}, {2, 255}, {128, 129}, {257, -1},
		{math.MaxInt, 1}, {1, math.MaxInt}, {math.MinInt, 1}, {1, math.MinInt}, {math.MaxInt, math.MinInt}, {math.MinInt, math.MinInt}, {math.MaxInt, math.MaxInt},
	} {
		k, m := code[0], code[1]
		got, err := syndrome.Weights(f, k, m)
		refused(t, got, err, api.ErrConfig, "Weights", k, m)
		got, err = syndrome.Of(f, k, m, make([]byte, min(max(k+m, 0), 300)))
		refused(t, got, err, api.ErrConfig, "Of", k, m)
		got, err = syndrome.Of(f, k, m, nil)
		refused(t, got, err, api.ErrConfig, "Of no word", k, m)
	}
	for _, code := range [][2]int{{1, 0}, {1, 1}, {256, 0}, {255, 1}, {1, 255}, {128, 128}} {
		k, m := code[0], code[1]
		got, err := syndrome.Weights(f, k, m)
		same(t, got, err, weightsOf(k, m), "Weights", k, m)
		got, err = syndrome.Of(f, k, m, mixed(9, k+m))
		same(t, got, err, syndromesOf(k, m, mixed(9, k+m)), "Of", k, m)
	}
}

// R1, P8.1, P8.2: no field is told ahead of all else.
func TestNoField(t *testing.T) {
	for _, k := range numbers {
		for _, m := range numbers {
			got, err := syndrome.Weights(nil, k, m)
			refused(t, got, err, api.ErrArg, "Weights without a field", k, m)
			for _, word := range words(k + m) {
				got, err = syndrome.Of(nil, k, m, word)
				refused(t, got, err, api.ErrArg, "Of without a field", k, m)
			}
		}
	}
}

// R2: each error ahead of those behind it, where they all apply.
func TestOrderOfErrors(t *testing.T) {
	f := gf.New()
	got, err := syndrome.Of(nil, 0, -1, nil)
	refused(t, got, err, api.ErrArg, "Of: no field, no code, no word", 0, -1)
	got, err = syndrome.Of(nil, 2, 1, []byte{1})
	refused(t, got, err, api.ErrArg, "Of: no field, a short word", 2, 1)
	got, err = syndrome.Of(nil, 2, 1, []byte{1, 2, 123})
	refused(t, got, err, api.ErrArg, "Of: no field", 2, 1)
	got, err = syndrome.Of(f, 0, -1, nil)
	refused(t, got, err, api.ErrConfig, "Of: no code, no word", 0, -1)
	got, err = syndrome.Of(f, 256, 1, mixed(1, 256))
	refused(t, got, err, api.ErrConfig, "Of: too many shards, a short word", 256, 1)
	got, err = syndrome.Of(f, 2, 1, nil)
	refused(t, got, err, api.ErrShard, "Of: no word", 2, 1)
	got, err = syndrome.Weights(nil, 0, -1)
	refused(t, got, err, api.ErrArg, "Weights: no field, no code", 0, -1)
	got, err = syndrome.Weights(f, 0, -1)
	refused(t, got, err, api.ErrConfig, "Weights: no code", 0, -1)
}

// R1: a field made by hand is one.
func TestFieldByHand(t *testing.T) {
	f := &gf.Field{}
	for _, code := range [][2]int{{1, 0}, {1, 1}, {3, 2}, {20, 12}} {
		k, m := code[0], code[1]
		word := mixed(k, k+m)
		got, err := syndrome.Weights(f, k, m)
		same(t, got, err, weightsOf(k, m), "Weights", k, m)
		got, err = syndrome.Of(f, k, m, word)
		same(t, got, err, syndromesOf(k, m, word), "Of", k, m)
	}
	if *f != (gf.Field{}) {
		t.Fatal("the field has been changed")
	}
}

// roomy is a copy of a word with spare room; all of it is told by whole.
func roomy(word []byte) (list, whole []byte) {
	whole = append(bytes.Clone(word), 0xA5, 0x5A, 0xC3)
	return whole[:len(word)], whole
}

// spoil writes over all that a list holds, spare room too.
func spoil(list []byte, with byte) {
	room := list[:cap(list)]
	for i := range room {
		room[i] = with
	}
}

// R3, R4: what is handed in is left as it was, by answers and by errors.
func TestArgumentsStay(t *testing.T) {
	f := gf.New()
	field := *f
	for _, code := range [][2]int{{1, 0}, {1, 1}, {3, 2}, {2, 5}, {128, 128}} {
		k, m := code[0], code[1]
		list, whole := roomy(mixed(k+m, k+m))
		before := bytes.Clone(whole)
		syndrome.Weights(f, k, m)
		syndrome.Weights(f, 0, m)
		syndrome.Of(f, k, m, list)
		syndrome.Of(nil, k, m, list)
		syndrome.Of(f, 0, m, list)
		syndrome.Of(f, k, m, list[:k+m-1])
		syndrome.Of(f, k, m, whole)
		if !bytes.Equal(whole, before) || *f != field {
			t.Fatalf("what was given to a code of %d and %d has changed", k, m)
		}
	}
}

// R4: answers lie in memory of their own, spare room too: neither the word nor another answer changes with them.
func TestAnswersApart(t *testing.T) {
	f := gf.New()
	for _, code := range [][2]int{{1, 0}, {1, 1}, {3, 2}, {2, 5}, {128, 128}, {1, 255}} {
		k, m := code[0], code[1]
		word := mixed(k*3+m, k+m)
		list, whole := roomy(word)
		before := bytes.Clone(whole)
		weights, err := syndrome.Weights(f, k, m)
		same(t, weights, err, weightsOf(k, m), "Weights", k, m)
		got, err := syndrome.Of(f, k, m, list)
		same(t, got, err, syndromesOf(k, m, word), "Of", k, m)
		more, _ := syndrome.Weights(f, k, m)
		again, _ := syndrome.Of(f, k, m, list)
		spoil(more, 0x11)
		spoil(again, 0x22)
		same(t, weights, api.OK, weightsOf(k, m), "an earlier Weights", k, m)
		same(t, got, api.OK, syndromesOf(k, m, word), "an earlier Of", k, m)
		spoil(weights, 0x33)
		spoil(got, 0x44)
		if !bytes.Equal(whole, before) {
			t.Fatalf("an answer of a code of %d and %d shares memory with the word", k, m)
		}
		more, err = syndrome.Weights(f, k, m)
		same(t, more, err, weightsOf(k, m), "a later Weights", k, m)
		again, err = syndrome.Of(f, k, m, list)
		same(t, again, err, syndromesOf(k, m, word), "a later Of", k, m)
	}
}

// R4: nothing is kept: an answer stays as it was when the word changes, and a later call answers by its own word.
func TestNothingIsKept(t *testing.T) {
	f := gf.New()
	const k, m = 3, 4
	word := mixed(5, k+m)
	want := syndromesOf(k, m, word)
	list, _ := roomy(word)
	got, err := syndrome.Of(f, k, m, list)
	spoil(list, 0x77)
	same(t, got, err, want, "Of a word that has changed", k, m)
	again, err := syndrome.Of(f, k, m, list)
	same(t, again, err, syndromesOf(k, m, bytes.Repeat([]byte{0x77}, k+m)), "Of the word that it is now", k, m)
}

// R5: neither spare room, nor other fields, nor calls that went before tell.
func TestSameAgain(t *testing.T) {
	codes := [][2]int{{4, 3}, {3, 4}, {7, 0}, {1, 6}, {6, 1}}
	f := gf.New()
	for range 3 {
		for _, code := range slices.Concat(codes, codes) {
			k, m := code[0], code[1]
			word := mixed(13, k+m)
			list, _ := roomy(word)
			for _, field := range []*gf.Field{f, gf.New()} {
				got, err := syndrome.Of(field, k, m, list)
				same(t, got, err, syndromesOf(k, m, word), "Of", k, m)
				got, err = syndrome.Weights(field, k, m)
				same(t, got, err, weightsOf(k, m), "Weights", k, m)
				syndrome.Of(field, k, m, list[:2])
				syndrome.Of(field, 0, m, list)
			}
		}
	}
}
