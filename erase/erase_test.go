package erase_test

import (
	"bytes"
	"maps"
	"math"
	"math/bits"
	"slices"
	"testing"

	"aumbry/api"
	"aumbry/bulk"
	"aumbry/erase"
	"aumbry/gf"
)

// product multiplies two numbers bit by bit, without package gf.
func product(a, b byte) byte {
	var r byte
	for range 8 {
		if b&1 == 1 {
			r ^= a
		}
		high := a&0x80 != 0
		a <<= 1
		if high {
			a ^= 0x1D
		}
		b >>= 1
	}
	return r
}

// products are told once, for the tests of great codes.
var products = func() (all [256][256]byte) {
	for a := range 256 {
		for b := range 256 {
			all[a][b] = product(byte(a), byte(b))
		}
	}
	return all
}()

// inverses are sought by trying all numbers; that of 0 stays 0.
var inverses = func() (all [256]byte) {
	for a := range 256 {
		for b := range 256 {
			if products[a][b] == 1 {
				all[a] = byte(b)
			}
		}
	}
	return all
}()

// mixed are bytes that hang on the seed and their places alone.
func mixed(seed, length int) []byte {
	b := make([]byte, length)
	x := uint32(seed)*2654435761 + 12345
	for i := range b {
		x ^= x << 13
		x ^= x >> 17
		x ^= x << 5
		b[i] = byte(x >> 11)
	}
	return b
}

func shardsOf(seed, many, length int) [][]byte {
	shards := make([][]byte, many)
	for i := range shards {
		shards[i] = mixed(seed*1000+i+1, length)
	}
	return shards
}

func cloned(shards [][]byte) [][]byte {
	own := make([][]byte, len(shards))
	for i, shard := range shards {
		own[i] = bytes.Clone(shard)
	}
	return own
}

// encodedOf is told place by place, as chapter 6's words say, without packages of the project.
func encodedOf(k, m int, data [][]byte) [][]byte {
	all := cloned(data)
	for i := range m {
		shard := make([]byte, len(data[0]))
		for at := range shard {
			for j := range k {
				shard[at] ^= products[inverses[(k+i)^j]][data[j][at]]
			}
		}
		all = append(all, shard)
	}
	return all
}

func stripe(seed, k, m, length int) [][]byte {
	return encodedOf(k, m, shardsOf(seed, k, length))
}

func equal(a, b [][]byte) bool {
	return slices.EqualFunc(a, b, bytes.Equal)
}

// told are shards, for a message: how many, and how long the first is, if they are many bytes.
func told(shards [][]byte) any {
	if len(shards) > 0 && len(shards)*len(shards[0]) > 60 {
		return [2]int{len(shards), len(shards[0])}
	}
	return shards
}

// same wants an answer without an error.
func same(t *testing.T, got [][]byte, err api.Errno, want [][]byte, name string) {
	t.Helper()
	if err != api.OK || !equal(got, want) {
		t.Fatalf("%s = %v, %d, want %v", name, told(got), err, told(want))
	}
}

// refused wants an error, and no shards beside it.
func refused(t *testing.T, got [][]byte, err, want api.Errno, name string) {
	t.Helper()
	if err != want || len(got) != 0 {
		t.Fatalf("%s = %v, %d, want error %d", name, told(got), err, want)
	}
}

// words are those of has: many, of which those at the places given are true.
func words(many int, places ...int) []bool {
	has := make([]bool, many)
	for _, place := range places {
		has[place] = true
	}
	return has
}

func all(many int) []bool {
	return slices.Repeat([]bool{true}, many)
}

// chosen are words of has, by the bits of a number.
func chosen(many int, choice uint) []bool {
	has := make([]bool, many)
	for i := range has {
		has[i] = choice>>i&1 == 1
	}
	return has
}

// hurt is a copy of shards in which those that are not there are others, of any length.
func hurt(has []bool, shards [][]byte) [][]byte {
	other := cloned(shards)
	for i := range other {
		if !has[i] {
			other[i] = mixed(i+500, i*5%13)
		}
	}
	return other
}

// numbers are those at the limits, and others, some of whose sums wrap round.
var numbers = []int{
	0, 1, 2, 3, 127, 128, 129, 200, 255, 256, 257, 511, 1 << 16, 1 << 31, 1 << 32, 1<<32 + 1, 1 << 62,
	-1, -2, -255, -256, -257, -1 << 32, -1 << 62,
	math.MaxInt, math.MaxInt - 1, math.MaxInt - 255, math.MinInt, math.MinInt + 1, math.MinInt + 256,
}

// mayBe asks the words of cauchy.Check one by one, without sums that wrap round.
func mayBe(k, m int) bool {
	return k >= 1 && k <= 256 && m >= 0 && m <= 256-k
}

// smallCodes are all of at most so many shards.
func smallCodes(most int) [][2]int {
	var codes [][2]int
	for k := 1; k <= most; k++ {
		for m := range most - k + 1 {
			codes = append(codes, [2]int{k, m})
		}
	}
	return codes
}

// greatCodes are those with as many shards as may be, and some beside them.
var greatCodes = [][2]int{
	{256, 0}, {255, 1}, {254, 2}, {200, 56}, {129, 127}, {128, 128}, {127, 129}, {56, 200}, {2, 254}, {1, 255}, {40, 30}, {17, 16},
}

// choices are words of has for a great code, just k of them true.
func choices(k, m int) map[string][]bool {
	first, last, spread, mixedUp := make([]bool, k+m), make([]bool, k+m), make([]bool, k+m), make([]bool, k+m)
	for i := range k {
		first[i], last[m+i] = true, true
		spread[i*(k+m)/k] = true
	}
	order := mixed(k*300+m, k+m)
	places := make([]int, k+m)
	for i := range places {
		places[i] = i
	}
	slices.SortStableFunc(places, func(a, b int) int { return int(order[a]) - int(order[b]) })
	for _, place := range places[:k] {
		mixedUp[place] = true
	}
	return map[string][]bool{"the first": first, "the last": last, "spread": spread, "mixed": mixedUp}
}

// The chapter's examples.
func TestExamples(t *testing.T) {
	f := gf.New()
	got, err := erase.Decode(f, 2, 1, words(3, 0, 2), [][]byte{{1}, nil, {123}})
	same(t, got, err, [][]byte{{1}, {2}, {123}}, "Decode of the first and the last")
	got, err = erase.Decode(f, 2, 1, words(3, 0), [][]byte{{1}, {2}, {123}})
	refused(t, got, err, api.ErrFew, "Decode of the first alone")
}

// P7.1: what is worked out by hand: Parity is 142 244 and 244 142.
func TestByHand(t *testing.T) {
	f := gf.New()
	want := [][]byte{{1, 0, 1}, {0, 1, 1}, {142, 244, 142 ^ 244}, {244, 142, 244 ^ 142}}
	for _, has := range [][]bool{words(4, 2, 3), words(4, 0, 2), words(4, 0, 3), words(4, 1, 2), words(4, 1, 3), words(4, 0, 1)} {
		got, err := erase.Decode(f, 2, 2, has, hurt(has, want))
		same(t, got, err, want, "Decode of two of four")
	}
	got, err := erase.Decode(f, 1, 2, words(3, 2), [][]byte{nil, nil, {1}})
	// The numbers of a code of one data shard are the inverses of 1 and 2.
	same(t, got, err, [][]byte{{2}, {2}, {1}}, "Decode of the last of three")
}

// The section Errors.
func TestNumbers(t *testing.T) {
	f := gf.New()
	if _, err := erase.Decode(nil, 1, 1, all(2), [][]byte{{1}, {1}}); err != 1 {
		t.Errorf("without a field: %d", err)
	}
	if _, err := erase.Decode(f, 0, 1, all(1), [][]byte{{1}}); err != 50 {
		t.Errorf("no data shards: %d", err)
	}
	if _, err := erase.Decode(f, 1, 1, all(2), [][]byte{{1}}); err != 60 {
		t.Errorf("too few shards: %d", err)
	}
	if _, err := erase.Decode(f, 1, 1, words(2), [][]byte{{1}, {1}}); err != 70 {
		t.Errorf("none there: %d", err)
	}
}

// P7.1, P7.2: every choice of a small code's shards: k or more make all of the stripe, fewer make nothing.
func TestEveryChoice(t *testing.T) {
	f := gf.New()
	for _, code := range smallCodes(8) {
		k, m := code[0], code[1]
		want := stripe(k*9+m, k, m, 3)
		for choice := range uint(1) << (k + m) {
			has := chosen(k+m, choice)
			got, err := erase.Decode(f, k, m, has, hurt(has, want))
			if bits.OnesCount(choice) < k {
				refused(t, got, err, api.ErrFew, "Decode of too few")
			} else {
				same(t, got, err, want, "Decode of a choice")
			}
		}
	}
}

// P7.2: every choice of just k shards, of codes with more of them.
func TestEveryChoiceOfMore(t *testing.T) {
	f := gf.New()
	for _, code := range [][2]int{{5, 6}, {6, 5}, {8, 4}, {4, 8}, {10, 3}} {
		k, m := code[0], code[1]
		want := stripe(k*31+m, k, m, 1)
		for choice := range uint(1) << (k + m) {
			if bits.OnesCount(choice) != k {
				continue
			}
			has := chosen(k+m, choice)
			got, err := erase.Decode(f, k, m, has, hurt(has, want))
			same(t, got, err, want, "Decode of a choice")
		}
	}
}

// P7.1: as many shards as may be: just k there, and one fewer.
func TestGreatCodes(t *testing.T) {
	f := gf.New()
	for _, code := range greatCodes {
		k, m := code[0], code[1]
		want := stripe(k+m, k, m, 2)
		for name, has := range choices(k, m) {
			got, err := erase.Decode(f, k, m, has, hurt(has, want))
			same(t, got, err, want, name)
			for _, fewer := range []int{slices.Index(has, true), k + m - 1 - slices.Index(reversed(has), true)} {
				less := slices.Clone(has)
				less[fewer] = false
				got, err = erase.Decode(f, k, m, less, hurt(less, want))
				refused(t, got, err, api.ErrFew, name+", one fewer")
			}
		}
		got, err := erase.Decode(f, k, m, all(k+m), want)
		same(t, got, err, want, "Decode of all")
		got, err = erase.Decode(f, k, m, words(k+m), want)
		refused(t, got, err, api.ErrFew, "Decode of none")
	}
}

func reversed(has []bool) []bool {
	other := slices.Clone(has)
	slices.Reverse(other)
	return other
}

// P7.2: lengths about those of words of the machine, and long shards.
func TestLong(t *testing.T) {
	f := gf.New()
	for _, length := range []int{1, 2, 7, 8, 9, 31, 65, 255, 256, 257, 4096, 70000} {
		want := stripe(length, 3, 2, length)
		for _, has := range [][]bool{words(5, 2, 3, 4), words(5, 0, 3, 4), words(5, 1, 2, 4), words(5, 0, 1, 2)} {
			got, err := erase.Decode(f, 3, 2, has, hurt(has, want))
			same(t, got, err, want, "Decode of long shards")
		}
	}
}

// P7.2: one data byte at a time, all its values, made out of parity alone.
func TestEveryByte(t *testing.T) {
	f := gf.New()
	const k, m = 3, 3
	for j := range k {
		data := make([][]byte, k)
		for i := range data {
			data[i] = make([]byte, 256)
		}
		for b := range 256 {
			data[j][b] = byte(b)
		}
		want := encodedOf(k, m, data)
		has := words(k+m, 3, 4, 5)
		got, err := erase.Decode(f, k, m, has, hurt(has, want))
		same(t, got, err, want, "Decode of parity")
	}
}

// P7.1, P7.2: of shards that are no stripe the first k there stay, and all others are made so that they are one.
func TestNoStripe(t *testing.T) {
	f := gf.New()
	for _, code := range append(smallCodes(7), [2]int{20, 12}, [2]int{128, 128}) {
		k, m := code[0], code[1]
		given := shardsOf(k*5+m, k+m, 4)
		lists := slices.Collect(maps.Values(choices(k, m)))
		lists = append(lists, all(k+m))
		for _, has := range lists {
			got, err := erase.Decode(f, k, m, has, hurt(has, given))
			if err != api.OK || len(got) != k+m {
				t.Fatalf("Decode(%d, %d) = %v, %d", k, m, told(got), err)
			}
			same(t, got, api.OK, encodedOf(k, m, got[:k]), "Encode of the first k of what is decoded")
			left := k
			for i := range has {
				if has[i] && left > 0 {
					left--
					if !bytes.Equal(got[i], given[i]) {
						t.Fatalf("Decode(%d, %d): the shard %d is another one", k, m, i)
					}
				}
			}
		}
	}
}

// P7.1: shards beyond the first k that are there do not matter, each of their bytes.
func TestBeyondTheFirst(t *testing.T) {
	f := gf.New()
	for _, code := range smallCodes(6) {
		k, m := code[0], code[1]
		want := stripe(k*7+m, k, m, 2)
		for choice := range uint(1) << (k + m) {
			has := chosen(k+m, choice)
			if bits.OnesCount(choice) <= k {
				continue
			}
			given := hurt(has, want)
			left := k
			for i := range has {
				if !has[i] {
					continue
				}
				if left--; left >= 0 {
					continue
				}
				for at := range given[i] {
					given[i][at] ^= byte(i*37 + at + 1)
					got, err := erase.Decode(f, k, m, has, given)
					same(t, got, err, want, "Decode, a shard beyond the first changed")
				}
			}
		}
	}
}

// P7.1: each byte of the first k matters: another one is decoded as it stands.
func TestTheFirst(t *testing.T) {
	f := gf.New()
	const k, m = 3, 2
	want := stripe(4, k, m, 2)
	has := words(k+m, 1, 3, 4)
	for _, i := range []int{1, 3, 4} {
		for at := range 2 {
			given := hurt(has, want)
			given[i][at] ^= 9
			got, err := erase.Decode(f, k, m, has, given)
			if err != api.OK || len(got) != k+m || equal(got, want) {
				t.Fatalf("Decode of another byte = %v, %d", told(got), err)
			}
			for _, place := range []int{1, 3, 4} {
				if !bytes.Equal(got[place], given[place]) {
					t.Fatalf("the shard %d is another one", place)
				}
			}
		}
	}
}

// P7.1: what stands for shards that are not there may be of any length, each of them by itself.
func TestNotThere(t *testing.T) {
	f := gf.New()
	for _, code := range [][2]int{{1, 1}, {2, 1}, {2, 3}, {4, 3}} {
		k, m := code[0], code[1]
		want := stripe(6, k, m, 3)
		for choice := range uint(1) << (k + m) {
			has := chosen(k+m, choice)
			for i := range has {
				if has[i] {
					continue
				}
				for _, other := range [][]byte{nil, {}, {1}, {1, 2}, {1, 2, 3}, {1, 2, 3, 4}, make([]byte, 5000)} {
					given := cloned(want)
					given[i] = other
					got, err := erase.Decode(f, k, m, has, given)
					if bits.OnesCount(choice) < k {
						refused(t, got, err, api.ErrFew, "Decode of too few")
					} else {
						same(t, got, err, want, "Decode, one not there of another length")
					}
				}
			}
		}
	}
}

// P7.1: what is decoded is Encode of its first k, and fits; decoded again it stays.
func TestIsOneStripe(t *testing.T) {
	f := gf.New()
	for _, code := range append(smallCodes(6), greatCodes...) {
		k, m := code[0], code[1]
		given := shardsOf(k+m*2, k+m, 3)
		for name, has := range choices(k, m) {
			got, err := erase.Decode(f, k, m, has, given)
			if err != api.OK || len(got) != k+m {
				t.Fatalf("%s: Decode(%d, %d) = %v, %d", name, k, m, told(got), err)
			}
			encoded, err := bulk.Encode(f, k, m, got[:k])
			same(t, encoded, err, got, "Encode of what is decoded")
			if fits, err := bulk.Fits(f, k, m, got); !fits || err != api.OK {
				t.Fatalf("%s: Fits(%d, %d) = %v, %d", name, k, m, fits, err)
			}
			again, err := erase.Decode(f, k, m, has, got)
			same(t, again, err, got, "Decode again")
		}
	}
}

// P7.1: without parity shards all must be there, and are answered as they are.
func TestNoParity(t *testing.T) {
	f := gf.New()
	for _, k := range []int{1, 2, 3, 9, 255, 256} {
		given := shardsOf(k, k, 2)
		got, err := erase.Decode(f, k, 0, all(k), given)
		same(t, got, err, given, "Decode without parity")
		for i := range k {
			has := all(k)
			has[i] = false
			got, err = erase.Decode(f, k, 0, has, given)
			refused(t, got, err, api.ErrFew, "Decode without parity, one not there")
		}
	}
}

// P7.1: shards of nought bytes are shards, nil or not.
func TestNoughtBytes(t *testing.T) {
	f := gf.New()
	for _, has := range [][]bool{words(4, 0, 1), words(4, 2, 3), words(4, 1, 3), all(4)} {
		got, err := erase.Decode(f, 2, 2, has, [][]byte{nil, {}, {}, nil})
		same(t, got, err, [][]byte{{}, {}, {}, {}}, "Decode of shards of nought bytes")
	}
	got, err := erase.Decode(f, 2, 2, words(4, 0, 3), [][]byte{nil, {1}, {2, 3}, {}})
	same(t, got, err, [][]byte{{}, {}, {}, {}}, "Decode of shards of nought bytes, others not there")
	got, err = erase.Decode(f, 2, 2, words(4, 2), make([][]byte, 4))
	refused(t, got, err, api.ErrFew, "Decode of one shard of nought bytes")
	got, err = erase.Decode(f, 2, 2, words(4, 0, 1, 3), [][]byte{nil, {}, {}, {0}})
	refused(t, got, err, api.ErrShard, "Decode of shards of nought bytes and one of one")
}

// P7.1: has and shards are k + m, and no other number, each and both.
func TestHowMany(t *testing.T) {
	f := gf.New()
	for _, code := range [][2]int{{1, 0}, {1, 1}, {2, 1}, {3, 2}, {2, 5}, {100, 100}, {256, 0}, {128, 128}} {
		k, m := code[0], code[1]
		counts := []int{0, 1, k - 1, k, k + 1, m, m + 1, k + m - 1, k + m, k + m + 1, 2 * (k + m), 300}
		for _, words := range counts {
			for _, many := range counts {
				for _, there := range []bool{false, true} {
					has := slices.Repeat([]bool{there}, words)
					given := shardsOf(1, many, 1)
					got, err := erase.Decode(f, k, m, has, given)
					switch {
					case words != k+m || many != k+m:
						refused(t, got, err, api.ErrShard, "Decode of too few or too many")
					case !there:
						refused(t, got, err, api.ErrFew, "Decode of none")
					default:
						same(t, got, err, encodedOf(k, m, given[:k]), "Decode of all")
					}
				}
			}
		}
		got, err := erase.Decode(f, k, m, nil, nil)
		refused(t, got, err, api.ErrShard, "Decode of nothing")
	}
}

// otherLengths are shards longer and shorter than the one given.
func otherLengths(shard []byte) [][]byte {
	return [][]byte{nil, shard[:len(shard)-1], append(bytes.Clone(shard), 0), bytes.Repeat(shard, 100)}
}

// P7.1, R2: one that is there of another length, in each place, also beyond the first k; and told ahead of there being too few.
func TestLengths(t *testing.T) {
	f := gf.New()
	for _, code := range smallCodes(6) {
		k, m := code[0], code[1]
		want := stripe(8, k, m, 3)
		for choice := range uint(1) << (k + m) {
			has := chosen(k+m, choice)
			for i := range has {
				for _, other := range otherLengths(want[i]) {
					given := cloned(want)
					given[i] = other
					got, err := erase.Decode(f, k, m, has, given)
					many := bits.OnesCount(choice)
					switch {
					case has[i] && many > 1:
						refused(t, got, err, api.ErrShard, "Decode of other lengths")
					case many < k:
						refused(t, got, err, api.ErrFew, "Decode of too few")
					case has[i]: // the only one, of a code of one data shard
						same(t, got, err, decodedOfOne(m, i, other), "Decode of one of any length")
					default:
						same(t, got, err, want, "Decode, another length not there")
					}
				}
			}
		}
	}
}

// decodedOfOne is the stripe of one data shard and m parity shards, whose shard i it is.
func decodedOfOne(m, i int, shard []byte) [][]byte {
	data := bytes.Clone(shard)
	if i > 0 {
		// The number of the parity shard i - 1 is the inverse of its point, i.
		for at := range data {
			data[at] = product(data[at], byte(i))
		}
	}
	return encodedOf(1, m, [][]byte{data})
}

// P7.1: one of another length, in each place of a code with as many shards as may be.
func TestLengthsOfGreatCodes(t *testing.T) {
	f := gf.New()
	const k, m = 56, 200
	want := stripe(3, k, m, 2)
	for i := range k + m {
		for _, other := range otherLengths(want[i]) {
			given := slices.Clone(want)
			given[i] = other
			got, err := erase.Decode(f, k, m, all(k+m), given)
			refused(t, got, err, api.ErrShard, "Decode of other lengths")
		}
	}
}

// givens are words of has and shards, some that may be and some that may not.
func givens() (lists [][]bool, shards [][][]byte) {
	lists = [][]bool{nil, {}, {true}, {false}, {true, true}, {true, false}, all(256), words(256), all(257)}
	shards = [][][]byte{nil, {}, {{1}}, {{1}, {2}}, {{1}, {2, 3}}, shardsOf(1, 256, 1), shardsOf(1, 257, 1)}
	return lists, shards
}

// P7.1, R2: numbers that cauchy.Check refuses come ahead of shards that may not be, or are too few.
func TestCodesThatMayNotBe(t *testing.T) {
	f := gf.New()
	lists, shards := givens()
	for _, k := range numbers {
		for _, m := range numbers {
			if mayBe(k, m) {
				continue
			}
			for _, has := range lists {
				for _, given := range shards {
					got, err := erase.Decode(f, k, m, has, given)
					refused(t, got, err, api.ErrConfig, "Decode of a code that may not be")
				}
			}
		}
	}
}

// P7.1: the edges of k and m one by one, so that they do not hang on mayBe.
func TestCodeEdges(t *testing.T) {
	f := gf.New()
	for _, code := range [][2]int{
		{0, 0}, {0, 1}, {0, 256}, {1, -1}, {2, -1}, {-1, 1}, {-1, 2}, {257, 0}, {256, 1}, {255, 2}, {1, 256}, {2, 255}, {128, 129}, {257, -1},
		{math.MaxInt, 1}, {1, math.MaxInt}, {math.MinInt, 1}, {1, math.MinInt}, {math.MaxInt, math.MinInt}, {math.MinInt, math.MinInt}, {math.MaxInt, math.MaxInt},
	} {
		k, m := code[0], code[1]
		many := min(max(k+m, 0), 300)
		got, err := erase.Decode(f, k, m, all(many), shardsOf(1, many, 1))
		refused(t, got, err, api.ErrConfig, "Decode of all")
		got, err = erase.Decode(f, k, m, words(many), nil)
		refused(t, got, err, api.ErrConfig, "Decode of none")
	}
	for _, code := range [][2]int{{1, 0}, {256, 0}, {255, 1}, {1, 255}} {
		k, m := code[0], code[1]
		want := stripe(2, k, m, 1)
		got, err := erase.Decode(f, k, m, all(256)[:k+m], want)
		same(t, got, err, want, "Decode at the edge")
	}
}

// R1, P7.1: no field is told ahead of all else.
func TestNoField(t *testing.T) {
	lists, shards := givens()
	for _, k := range numbers {
		for _, m := range numbers {
			for _, has := range lists {
				for _, given := range shards {
					got, err := erase.Decode(nil, k, m, has, given)
					refused(t, got, err, api.ErrArg, "Decode without a field")
				}
			}
		}
	}
	got, err := erase.Decode(nil, 2, 1, all(3), stripe(1, 2, 1, 1))
	refused(t, got, err, api.ErrArg, "Decode of a stripe without a field")
}

// R2: each error ahead of those behind it, where they all apply.
func TestOrderOfErrors(t *testing.T) {
	f := gf.New()
	uneven := [][]byte{{1}, {2, 3}, nil}
	got, err := erase.Decode(nil, 0, -1, words(1), uneven)
	refused(t, got, err, api.ErrArg, "no field, no code, too few words of has")
	got, err = erase.Decode(f, 0, -1, words(1), uneven)
	refused(t, got, err, api.ErrConfig, "no code, too few words of has")
	got, err = erase.Decode(f, 3, 0, words(1), uneven)
	refused(t, got, err, api.ErrShard, "too few words of has, none there")
	got, err = erase.Decode(f, 3, 0, words(4), uneven)
	refused(t, got, err, api.ErrShard, "too many words of has, none there")
	got, err = erase.Decode(f, 3, 0, words(3), uneven[:2])
	refused(t, got, err, api.ErrShard, "too few shards, none there")
	got, err = erase.Decode(f, 3, 0, words(3, 0, 1), uneven)
	refused(t, got, err, api.ErrShard, "two lengths, and too few")
	got, err = erase.Decode(f, 3, 0, words(3, 1), uneven)
	refused(t, got, err, api.ErrFew, "one length, and too few")
	got, err = erase.Decode(f, 3, 0, words(3), uneven)
	refused(t, got, err, api.ErrFew, "none there")
}

// R1: a field made by hand is one.
func TestFieldByHand(t *testing.T) {
	f := &gf.Field{}
	want := stripe(6, 3, 2, 4)
	has := words(5, 1, 3, 4)
	got, err := erase.Decode(f, 3, 2, has, hurt(has, want))
	same(t, got, err, want, "Decode")
	if *f != (gf.Field{}) {
		t.Fatal("Decode has changed the field")
	}
}

// roomy are copies of shards, each with spare room, in a list with spare room; all of it is told by whole.
func roomy(shards [][]byte) (list, whole [][]byte) {
	list = make([][]byte, 0, len(shards)+2)
	for i, shard := range shards {
		room := append(bytes.Clone(shard), 0xA5, byte(i), 0x5A)
		list = append(list, room[:len(shard)])
	}
	whole = list[:cap(list)]
	for i := len(list); i < len(whole); i++ {
		whole[i] = []byte{0xC3, byte(i)}
	}
	return list, whole
}

// roomyWords is a copy of has with spare room, true throughout.
func roomyWords(has []bool) (list, whole []bool) {
	whole = append(slices.Clone(has), true, true, true)
	return whole[:len(has)], whole
}

// unspoilt are copies of all bytes behind whole, spare room too.
func unspoilt(whole [][]byte) [][]byte {
	copies := make([][]byte, len(whole))
	for i, shard := range whole {
		copies[i] = bytes.Clone(shard[:cap(shard)])
	}
	return copies
}

// spoil writes over all that a list of shards holds, spare room too.
func spoil(shards [][]byte, with byte) {
	shards = shards[:cap(shards)]
	for i := range shards {
		room := shards[i][:cap(shards[i])]
		for at := range room {
			room[at] = with
		}
	}
}

// R3, R4: what is handed in is left as it was, by answers and by errors.
func TestArgumentsStay(t *testing.T) {
	f := gf.New()
	const k, m = 3, 2
	for choice := range uint(1) << (k + m) {
		given := chosen(k+m, choice)
		list, whole := roomy(hurt(given, stripe(9, k, m, 5)))
		has, wholeHas := roomyWords(given)
		before, beforeHas := unspoilt(whole), slices.Clone(wholeHas)
		erase.Decode(f, k, m, has, list)
		erase.Decode(nil, k, m, has, list)
		erase.Decode(f, 0, m, has, list)
		erase.Decode(f, k, m, has[:4], list)
		erase.Decode(f, k, m, has, list[:4])
		erase.Decode(f, k, m, all(k+m), list)
		erase.Decode(f, k, m, wholeHas[:k+m+2], whole)
		if !equal(unspoilt(whole), before) || !slices.Equal(wholeHas, beforeHas) {
			t.Fatalf("Decode has changed what it was given, of the choice %b", choice)
		}
	}
}

// apart wants an answer no two of whose shards share memory with one another or with what was given, spare room too.
func apart(t *testing.T, got, given [][]byte, name string) {
	t.Helper()
	want := cloned(got)
	before := unspoilt(given)
	for i, shard := range got {
		room := shard[:cap(shard)]
		for at := range room {
			room[at] ^= 0xFF
		}
		for other := range got {
			if other != i && !bytes.Equal(got[other], want[other]) {
				t.Fatalf("%s: the shards %d and %d share memory", name, i, other)
			}
		}
		if !equal(unspoilt(given), before) {
			t.Fatalf("%s: the shard %d shares memory with what was given", name, i)
		}
		copy(shard, want[i])
	}
	for i := range got[:cap(got)] {
		got[:cap(got)][i] = []byte("another")
	}
	if !equal(unspoilt(given), before) {
		t.Fatalf("%s: the list shares memory with what was given", name)
	}
}

// P7.1, R4: answers are in memory of their own, whichever shards are there.
func TestAnswersApart(t *testing.T) {
	f := gf.New()
	for _, code := range [][2]int{{1, 0}, {3, 0}, {1, 1}, {3, 2}, {2, 3}} {
		k, m := code[0], code[1]
		for choice := range uint(1) << (k + m) {
			if bits.OnesCount(choice) < k {
				continue
			}
			has := chosen(k+m, choice)
			list, whole := roomy(stripe(10, k, m, 5))
			got, err := erase.Decode(f, k, m, has, list)
			same(t, got, err, list, "Decode")
			apart(t, got, whole, "Decode")
		}
	}
}

// R4: nothing is kept: an answer stays as it was when the arguments change, and a later call answers by its own arguments.
func TestNothingIsKept(t *testing.T) {
	f := gf.New()
	const k, m = 3, 2
	want := stripe(11, k, m, 5)
	list, _ := roomy(want)
	has := words(k+m, 0, 2, 4)
	got, err := erase.Decode(f, k, m, has, list)
	spoil(list, 0x77)
	copy(has, all(k+m))
	same(t, got, err, want, "Decode, its arguments changed")
	again, err := erase.Decode(f, k, m, has, list)
	same(t, again, err, encodedOf(k, m, list[:k]), "Decode of what is there now")
	spoil(again, 0x11)
	same(t, got, api.OK, want, "an earlier answer")
}

// R4: shards that are given may be one and the same memory.
func TestSharedArguments(t *testing.T) {
	f := gf.New()
	const k, m = 3, 2
	shard := mixed(12, 6)
	given := [][]byte{shard, shard, shard, shard, shard}
	for _, has := range [][]bool{all(5), words(5, 0, 1, 2), words(5, 2, 3, 4), words(5, 0, 3, 4)} {
		got, err := erase.Decode(f, k, m, has, given)
		if err != api.OK || len(got) != k+m {
			t.Fatalf("Decode of one shard = %v, %d", told(got), err)
		}
		same(t, got, api.OK, encodedOf(k, m, got[:k]), "Decode of one shard")
		apart(t, got, given, "Decode of one shard")
	}
}

// R5: neither spare room nor calls that went before tell.
func TestSameAgain(t *testing.T) {
	const k, m = 4, 3
	want := stripe(13, k, m, 7)
	f := gf.New()
	for range 3 {
		for _, places := range [][]int{{3, 4, 5, 6}, {0, 1, 2, 3}, {0, 2, 4, 6}} {
			has, _ := roomyWords(words(k+m, places...))
			list, _ := roomy(hurt(has, want))
			got, err := erase.Decode(f, k, m, has, list)
			same(t, got, err, want, "Decode")
			erase.Decode(f, k, m, has[:3], list)
			erase.Decode(f, m, k, has, list)
		}
	}
}
