package bulk_test

import (
	"bytes"
	"math"
	"slices"
	"testing"

	"aumbry/api"
	"aumbry/bulk"
	"aumbry/gf"
)

// product multiplies two numbers bit by bit, without package gf.
func product(a, b byte) byte {
	var r byte
	for range 8 {
		if b&1 == 1 {
			r ^= a
		}
		high := a&0x80 != 0
		a <<= 1
		if high {
			a ^= 0x1D
		}
		b >>= 1
	}
	return r
}

// inverses are sought by trying all numbers; that of 0 stays 0.
var inverses = func() (all [256]byte) {
	for a := range 256 {
		for b := range 256 {
			if product(byte(a), byte(b)) == 1 {
				all[a] = byte(b)
			}
		}
	}
	return all
}()

// products are told once, for the tests of great codes.
var products = func() (all [256][256]byte) {
	for a := range 256 {
		for b := range 256 {
			all[a][b] = product(byte(a), byte(b))
		}
	}
	return all
}()

// mixed are bytes that hang on the seed and their places alone.
func mixed(seed, length int) []byte {
	b := make([]byte, length)
	x := uint32(seed)*2654435761 + 12345
	for i := range b {
		x ^= x << 13
		x ^= x >> 17
		x ^= x << 5
		b[i] = byte(x >> 11)
	}
	return b
}

func stripe(seed, many, length int) [][]byte {
	shards := make([][]byte, many)
	for i := range shards {
		shards[i] = mixed(seed*1000+i+1, length)
	}
	return shards
}

func cloned(shards [][]byte) [][]byte {
	own := make([][]byte, len(shards))
	for i, shard := range shards {
		own[i] = bytes.Clone(shard)
	}
	return own
}

// encodedOf is told place by place, as the chapter's words say.
func encodedOf(k, m int, data [][]byte) [][]byte {
	all := cloned(data)
	for i := range m {
		shard := make([]byte, len(data[0]))
		for at := range shard {
			for j := range k {
				shard[at] ^= products[inverses[(k+i)^j]][data[j][at]]
			}
		}
		all = append(all, shard)
	}
	return all
}

func equal(a, b [][]byte) bool {
	return slices.EqualFunc(a, b, bytes.Equal)
}

// told are shards, for a message: how many, and how long the first is, if they are many bytes.
func told(shards [][]byte) any {
	if len(shards) > 0 && len(shards)*len(shards[0]) > 60 {
		return [2]int{len(shards), len(shards[0])}
	}
	return shards
}

// same wants an answer without an error.
func same(t *testing.T, got [][]byte, err api.Errno, want [][]byte, name string) {
	t.Helper()
	if err != api.OK || !equal(got, want) {
		t.Fatalf("%s = %v, %d, want %v", name, told(got), err, told(want))
	}
}

// refused wants an error, and no shards beside it.
func refused(t *testing.T, got [][]byte, err, want api.Errno, name string) {
	t.Helper()
	if err != want || len(got) != 0 {
		t.Fatalf("%s = %v, %d, want error %d", name, told(got), err, want)
	}
}

// fits wants what Fits answers.
func fits(t *testing.T, f *gf.Field, k, m int, shards [][]byte, want bool, wanted api.Errno, name string) {
	t.Helper()
	if got, err := bulk.Fits(f, k, m, shards); got != want || err != wanted {
		t.Fatalf("Fits(%d, %d), %s = %v, %d, want %v, %d", k, m, name, got, err, want, wanted)
	}
}

// numbers are those at the limits, and others, some of whose sums wrap round.
var numbers = []int{
	0, 1, 2, 3, 127, 128, 129, 200, 255, 256, 257, 511, 1 << 16, 1 << 31, 1 << 32, 1<<32 + 1, 1 << 62,
	-1, -2, -255, -256, -257, -1 << 32, -1 << 62,
	math.MaxInt, math.MaxInt - 1, math.MaxInt - 255, math.MinInt, math.MinInt + 1, math.MinInt + 256,
}

// mayBe asks the words of cauchy.Check one by one, without sums that wrap round.
func mayBe(k, m int) bool {
	return k >= 1 && k <= 256 && m >= 0 && m <= 256-k
}

// codes are small ones, those without parity, and those with as many shards as may be.
var codes = [][2]int{
	{1, 0}, {1, 1}, {2, 1}, {1, 2}, {2, 0}, {2, 2}, {3, 2}, {4, 3}, {5, 1}, {7, 6}, {10, 4},
	{256, 0}, {255, 1}, {1, 255}, {128, 128}, {200, 56}, {56, 200},
}

// The chapter's examples.
func TestExamples(t *testing.T) {
	f := gf.New()
	got, err := bulk.Encode(f, 1, 1, [][]byte{[]byte("ab")})
	same(t, got, err, [][]byte{[]byte("ab"), []byte("ab")}, "Encode(1, 1, ab)")
	got, err = bulk.Encode(f, 2, 1, [][]byte{{1}, {2}})
	same(t, got, err, [][]byte{{1}, {2}, {123}}, "Encode(2, 1, (1), (2))")
	fits(t, f, 1, 1, [][]byte{{1}, {2}}, false, api.OK, "(1), (2)")
	got, err = bulk.Encode(f, 2, 1, [][]byte{{1}})
	refused(t, got, err, api.ErrShard, "Encode(2, 1, (1))")
}

// P6.2, P6.3: what is worked out by hand: Parity is 142 244 and 244 142.
func TestByHand(t *testing.T) {
	f := gf.New()
	got, err := bulk.Encode(f, 2, 2, [][]byte{{1, 0, 1}, {0, 1, 1}})
	same(t, got, err, [][]byte{{1, 0, 1}, {0, 1, 1}, {142, 244, 142 ^ 244}, {244, 142, 244 ^ 142}}, "Encode")
	got, err = bulk.Update(f, 2, 2, 1, []byte{7}, []byte{6}, [][]byte{{10}, {20}})
	same(t, got, err, [][]byte{{10 ^ 244}, {20 ^ 142}}, "Update of the second")
	got, err = bulk.Update(f, 2, 2, 0, []byte{0, 9}, []byte{1, 9}, [][]byte{{0, 3}, {0, 4}})
	same(t, got, err, [][]byte{{142, 3}, {244, 4}}, "Update of the first")
	fits(t, f, 2, 2, [][]byte{{1}, {0}, {142}, {244}}, true, api.OK, "a stripe")
	fits(t, f, 2, 2, [][]byte{{1}, {0}, {244}, {142}}, false, api.OK, "parity the other way round")
	fits(t, f, 2, 2, [][]byte{{0}, {1}, {142}, {244}}, false, api.OK, "data the other way round")
}

// The section Errors.
func TestNumbers(t *testing.T) {
	f := gf.New()
	if _, err := bulk.Encode(nil, 1, 1, [][]byte{{1}}); err != 1 {
		t.Errorf("without a field: %d", err)
	}
	if _, err := bulk.Encode(f, 0, 1, nil); err != 50 {
		t.Errorf("no data shards: %d", err)
	}
	if _, err := bulk.Encode(f, 1, 1, nil); err != 60 {
		t.Errorf("too few shards: %d", err)
	}
}

// P6.2: each byte of what Encode answers, at lengths about those of words of the machine.
func TestEncode(t *testing.T) {
	f := gf.New()
	for _, code := range codes {
		k, m := code[0], code[1]
		for _, length := range []int{0, 1, 2, 3, 7, 8, 9, 31, 65} {
			data := stripe(k+m*3+length, k, length)
			got, err := bulk.Encode(f, k, m, data)
			same(t, got, err, encodedOf(k, m, data), "Encode")
		}
	}
}

// P6.2: all small codes, and long shards.
func TestManyCodes(t *testing.T) {
	f := gf.New()
	for k := 1; k <= 16; k++ {
		for m := range 17 {
			data := stripe(k*17+m, k, 5)
			got, err := bulk.Encode(f, k, m, data)
			same(t, got, err, encodedOf(k, m, data), "Encode")
			fits(t, f, k, m, got, true, api.OK, "what Encode answers")
		}
	}
	for _, length := range []int{255, 256, 257, 4096, 70000} {
		data := stripe(length, 3, length)
		got, err := bulk.Encode(f, 3, 2, data)
		same(t, got, err, encodedOf(3, 2, data), "Encode of long shards")
		fits(t, f, 3, 2, got, true, api.OK, "long shards")
	}
}

// P6.2: one data byte at a time, all its values: the parity is Parity's number of its column times it.
func TestOneByte(t *testing.T) {
	f := gf.New()
	const k, m = 4, 3
	for j := range k {
		data := stripe(0, k, 256)
		for i := range data {
			clear(data[i])
		}
		for b := range 256 {
			data[j][b] = byte(b)
		}
		got, err := bulk.Encode(f, k, m, data)
		if err != api.OK || len(got) != k+m {
			t.Fatalf("Encode = %v, %d", told(got), err)
		}
		for i := range m {
			for b := range 256 {
				if want := product(inverses[(k+i)^j], byte(b)); got[k+i][b] != want {
					t.Errorf("%d in the shard %d makes %d in the parity shard %d, want %d", b, j, got[k+i][b], i, want)
				}
			}
		}
	}
}

// P6.3: Update adds to each byte, whatever parity's shards are.
func TestUpdate(t *testing.T) {
	f := gf.New()
	for _, code := range codes {
		k, m := code[0], code[1]
		for _, length := range []int{0, 1, 2, 9, 33} {
			for _, j := range []int{0, k / 2, k - 1} {
				old, next, parity := mixed(j+1, length), mixed(j+7, length), stripe(k+m, m, length)
				want := cloned(parity)
				for i := range want {
					for at := range want[i] {
						want[i][at] ^= product(inverses[(k+i)^j], old[at]^next[at])
					}
				}
				got, err := bulk.Update(f, k, m, j, old, next, parity)
				same(t, got, err, want, "Update")
			}
		}
	}
}

// P6.4: Update of a stripe's parity is Encode of the stripe with the other data shard, at each place.
func TestUpdateIsEncode(t *testing.T) {
	f := gf.New()
	for _, code := range [][2]int{{1, 0}, {1, 1}, {2, 1}, {3, 2}, {4, 3}, {9, 5}, {30, 20}} {
		k, m := code[0], code[1]
		for j := range k {
			data := stripe(k*m+j, k, 6)
			first, _ := bulk.Encode(f, k, m, data)
			other := slices.Clone(data)
			other[j] = mixed(j+900, 6)
			want, _ := bulk.Encode(f, k, m, other)
			got, err := bulk.Update(f, k, m, j, data[j], other[j], first[k:])
			same(t, got, err, want[k:], "Update of a stripe")
			back, err := bulk.Update(f, k, m, j, other[j], data[j], got)
			same(t, back, err, first[k:], "Update back again")
			kept, err := bulk.Update(f, k, m, j, data[j], data[j], first[k:])
			same(t, kept, err, first[k:], "Update by the same shard")
		}
	}
}

// P6.4: parity made data shard by data shard, from that of noughts, is Encode's.
func TestUpdateFromNought(t *testing.T) {
	f := gf.New()
	const k, m, length = 5, 4, 12
	data := stripe(77, k, length)
	parity := slices.Repeat([][]byte{make([]byte, length)}, m)
	for j := range k {
		var err api.Errno
		parity, err = bulk.Update(f, k, m, j, make([]byte, length), data[j], parity)
		if err != api.OK {
			t.Fatalf("Update: %d", err)
		}
	}
	same(t, parity, api.OK, encodedOf(k, m, data)[k:], "parity made step by step")
}

// P6.4: the sum of two stripes is one.
func TestSums(t *testing.T) {
	f := gf.New()
	for _, code := range codes {
		k, m := code[0], code[1]
		first, second := stripe(1, k, 11), stripe(2, k, 11)
		one, _ := bulk.Encode(f, k, m, first)
		two, _ := bulk.Encode(f, k, m, second)
		sum := cloned(one)
		for i := range sum {
			for at := range sum[i] {
				sum[i][at] ^= two[i][at]
			}
		}
		fits(t, f, k, m, sum, true, api.OK, "the sum of two stripes")
		got, err := bulk.Encode(f, k, m, sum[:k])
		same(t, got, err, sum, "Encode of a sum")
	}
}

// P6.3: Fits is false if any one byte is another, but without parity, where any shards fit.
func TestFits(t *testing.T) {
	f := gf.New()
	const length = 3
	for _, code := range [][2]int{{1, 0}, {3, 0}, {1, 1}, {2, 1}, {1, 3}, {3, 2}, {6, 4}, {40, 30}} {
		k, m := code[0], code[1]
		shards := encodedOf(k, m, stripe(5, k, length))
		fits(t, f, k, m, shards, true, api.OK, "a stripe")
		for i := range shards {
			for at := range length {
				for _, change := range []byte{1, 2, 128, 255} {
					shards[i][at] ^= change
					fits(t, f, k, m, shards, m == 0, api.OK, "another byte")
					shards[i][at] ^= change
				}
			}
		}
	}
}

// P6.3: Fits of all pairs of bytes of a code of two: the second is the first.
func TestFitsAllBytes(t *testing.T) {
	f := gf.New()
	for a := range 256 {
		for b := range 256 {
			fits(t, f, 1, 1, [][]byte{{byte(a)}, {byte(b)}}, a == b, api.OK, "two bytes")
		}
	}
}

// P6.1, P6.2: shards of nought bytes are shards, nil or not.
func TestNoughtBytes(t *testing.T) {
	f := gf.New()
	got, err := bulk.Encode(f, 2, 2, [][]byte{nil, {}})
	same(t, got, err, [][]byte{{}, {}, {}, {}}, "Encode of shards of nought bytes")
	got, err = bulk.Update(f, 2, 2, 1, nil, []byte{}, [][]byte{{}, nil})
	same(t, got, err, [][]byte{{}, {}}, "Update of shards of nought bytes")
	fits(t, f, 2, 2, [][]byte{nil, {}, {}, nil}, true, api.OK, "shards of nought bytes")
	fits(t, f, 2, 2, [][]byte{nil, {}, {}}, false, api.ErrShard, "too few shards of nought bytes")
	got, err = bulk.Encode(f, 1, 1, [][]byte{})
	refused(t, got, err, api.ErrShard, "Encode of no shards")
}

// P6.1, P6.3: without parity shards Encode copies, Update answers none, and old and next are asked all the same.
func TestNoParity(t *testing.T) {
	f := gf.New()
	data := stripe(3, 3, 4)
	got, err := bulk.Encode(f, 3, 0, data)
	same(t, got, err, data, "Encode without parity")
	for _, none := range [][][]byte{nil, {}} {
		got, err = bulk.Update(f, 3, 0, 2, data[0], data[1], none)
		same(t, got, err, nil, "Update without parity")
		got, err = bulk.Update(f, 3, 0, 2, data[0], data[1][:3], none)
		refused(t, got, err, api.ErrShard, "Update without parity, old and next of two lengths")
		got, err = bulk.Update(f, 3, 0, 3, data[0], data[1], none)
		refused(t, got, err, api.ErrShard, "Update without parity, j too great")
	}
	got, err = bulk.Update(f, 3, 0, 0, data[0], data[1], data[2:])
	refused(t, got, err, api.ErrShard, "Update without parity, with a parity shard")
}

// P6.1: as many shards as there should be, and no other number of them.
func TestHowMany(t *testing.T) {
	f := gf.New()
	for _, code := range [][2]int{{1, 0}, {1, 1}, {2, 1}, {3, 2}, {2, 5}, {100, 100}, {256, 0}, {128, 128}} {
		k, m := code[0], code[1]
		for _, many := range []int{0, 1, 2, 3, 4, 5, 6, 7, 8, 99, 100, 101, 127, 128, 129, 199, 200, 201, 255, 256, 257, 300} {
			shards := stripe(many, many, 1)
			got, err := bulk.Encode(f, k, m, shards)
			if many == k {
				same(t, got, err, encodedOf(k, m, shards), "Encode")
			} else {
				refused(t, got, err, api.ErrShard, "Encode of too few or too many")
			}
			got, err = bulk.Update(f, k, m, 0, []byte{1}, []byte{1}, shards)
			if many == m {
				same(t, got, err, shards, "Update")
			} else {
				refused(t, got, err, api.ErrShard, "Update of too few or too many")
			}
			if many != k+m {
				fits(t, f, k, m, shards, false, api.ErrShard, "too few or too many")
			}
		}
	}
}

// otherLengths are shards one of which, in each place, is longer or shorter than the others.
func otherLengths(shards [][]byte) [][][]byte {
	var lists [][][]byte
	for i, shard := range shards {
		for _, other := range [][]byte{nil, shard[:len(shard)-1], append(bytes.Clone(shard), 0), bytes.Repeat(shard, 100)} {
			changed := slices.Clone(shards)
			changed[i] = other
			lists = append(lists, changed)
		}
	}
	return lists
}

// P6.1: not all of one length.
func TestLengths(t *testing.T) {
	f := gf.New()
	for _, code := range [][2]int{{2, 0}, {2, 1}, {3, 2}, {5, 4}} {
		k, m := code[0], code[1]
		shards := encodedOf(k, m, stripe(8, k, 3))
		for _, changed := range otherLengths(shards[:k]) {
			got, err := bulk.Encode(f, k, m, changed)
			refused(t, got, err, api.ErrShard, "Encode of other lengths")
		}
		for _, changed := range otherLengths(shards) {
			fits(t, f, k, m, changed, false, api.ErrShard, "other lengths")
		}
		if m > 1 {
			for _, changed := range otherLengths(shards[k:]) {
				got, err := bulk.Update(f, k, m, 0, shards[0], shards[1], changed)
				refused(t, got, err, api.ErrShard, "Update of other lengths")
			}
		}
	}
}

// P6.1: old, next and parity's shards: one of them, or two, of another length.
func TestUpdateLengths(t *testing.T) {
	f := gf.New()
	for old := range 4 {
		for next := range 4 {
			for parity := range 4 {
				got, err := bulk.Update(f, 2, 1, 0, make([]byte, old), make([]byte, next), [][]byte{make([]byte, parity)})
				if old == next && next == parity {
					same(t, got, err, [][]byte{make([]byte, parity)}, "Update")
				} else {
					refused(t, got, err, api.ErrShard, "Update of other lengths")
				}
			}
		}
	}
}

// P6.3: j is 0 to k - 1.
func TestUpdatePlace(t *testing.T) {
	f := gf.New()
	for _, code := range [][2]int{{1, 1}, {2, 1}, {3, 0}, {200, 56}, {1, 255}, {256, 0}} {
		k, m := code[0], code[1]
		parity := stripe(4, m, 1)
		for _, j := range append([]int{k - 1, k, k + 1, k + m, -k}, numbers...) {
			got, err := bulk.Update(f, k, m, j, []byte{5}, []byte{5}, parity)
			if j >= 0 && j < k {
				same(t, got, err, parity, "Update")
			} else {
				refused(t, got, err, api.ErrShard, "Update of a place that is not there")
			}
		}
	}
}

// P6.1, R2: numbers that cauchy.Check refuses come ahead of shards that may not be.
func TestCodesThatMayNotBe(t *testing.T) {
	f := gf.New()
	lists := [][][]byte{nil, {}, {{1}}, {{1}, {2}}, {{1}, {2, 3}}, stripe(1, 256, 1), stripe(1, 257, 1)}
	for _, k := range numbers {
		for _, m := range numbers {
			for _, shards := range lists {
				encoded, err := bulk.Encode(f, k, m, shards)
				updated, second := bulk.Update(f, k, m, -1, []byte{1}, nil, shards)
				whole, third := bulk.Fits(f, k, m, shards)
				if mayBe(k, m) {
					refused(t, updated, second, api.ErrShard, "Update")
					continue
				}
				refused(t, encoded, err, api.ErrConfig, "Encode")
				refused(t, updated, second, api.ErrConfig, "Update")
				if whole || third != api.ErrConfig {
					t.Fatalf("Fits(%d, %d) = %v, %d", k, m, whole, third)
				}
			}
		}
	}
}

// P6.1: the edges of k and m one by one, so that they do not hang on mayBe.
func TestCodeEdges(t *testing.T) {
	f := gf.New()
	for _, code := range [][2]int{
		{0, 0}, {0, 1}, {1, -1}, {-1, 1}, {-1, 2}, {257, 0}, {256, 1}, {255, 2}, {1, 256}, {2, 255}, {128, 129},
		{math.MaxInt, 1}, {1, math.MaxInt}, {math.MinInt, 1}, {1, math.MinInt}, {math.MaxInt, math.MinInt}, {math.MinInt, math.MinInt},
	} {
		k, m := code[0], code[1]
		got, err := bulk.Encode(f, k, m, stripe(1, min(max(k, 0), 300), 1))
		refused(t, got, err, api.ErrConfig, "Encode")
		got, err = bulk.Update(f, k, m, 0, []byte{1}, []byte{2}, stripe(1, min(max(m, 0), 300), 1))
		refused(t, got, err, api.ErrConfig, "Update")
		fits(t, f, k, m, stripe(1, 1, 1), false, api.ErrConfig, "a code that may not be")
	}
}

// R1, P6.1: no field is told ahead of all else.
func TestNoField(t *testing.T) {
	lists := [][][]byte{nil, {{1}}, {{1}, {2}}, {{1}, {2, 3}}, stripe(1, 256, 1)}
	for _, k := range numbers {
		for _, m := range numbers {
			for _, shards := range lists {
				got, err := bulk.Encode(nil, k, m, shards)
				refused(t, got, err, api.ErrArg, "Encode without a field")
				for _, j := range []int{-1, 0, k} {
					got, err = bulk.Update(nil, k, m, j, []byte{1}, []byte{2}, shards)
					refused(t, got, err, api.ErrArg, "Update without a field")
				}
				fits(t, nil, k, m, shards, false, api.ErrArg, "without a field")
			}
		}
	}
}

// R1: a field made by hand is one.
func TestFieldByHand(t *testing.T) {
	f := &gf.Field{}
	data := stripe(6, 3, 4)
	want := encodedOf(3, 2, data)
	got, err := bulk.Encode(f, 3, 2, data)
	same(t, got, err, want, "Encode")
	fits(t, f, 3, 2, want, true, api.OK, "a field by hand")
	got, err = bulk.Update(f, 3, 2, 1, data[1], data[1], want[3:])
	same(t, got, err, want[3:], "Update")
}

// roomy are copies of shards, each with spare room, in a list with spare room; all of it is told by whole.
func roomy(shards [][]byte) (list, whole [][]byte) {
	list = make([][]byte, 0, len(shards)+2)
	for i, shard := range shards {
		room := append(bytes.Clone(shard), 0xA5, byte(i), 0x5A)
		list = append(list, room[:len(shard)])
	}
	whole = list[:cap(list)]
	for i := len(list); i < len(whole); i++ {
		whole[i] = []byte{0xC3, byte(i)}
	}
	return list, whole
}

// unspoilt are copies of all bytes behind whole, spare room too.
func unspoilt(whole [][]byte) [][]byte {
	all := make([][]byte, len(whole))
	for i, shard := range whole {
		all[i] = bytes.Clone(shard[:cap(shard)])
	}
	return all
}

// spoil writes over all that lists of shards hold, spare room too.
func spoil(shards [][]byte, with byte) {
	shards = shards[:cap(shards)]
	for i := range shards {
		bytesOf := shards[i][:cap(shards[i])]
		for at := range bytesOf {
			bytesOf[at] = with
		}
	}
}

// R3, R4: what is handed in is left as it was, by answers and by errors.
func TestArgumentsStay(t *testing.T) {
	f := gf.New()
	const k, m = 3, 2
	list, whole := roomy(encodedOf(k, m, stripe(9, k, 5)))
	before := unspoilt(whole)
	asked := func(name string) {
		t.Helper()
		if !equal(unspoilt(whole), before) {
			t.Fatalf("%s has changed what it was given", name)
		}
	}
	bulk.Encode(f, k, m, list[:k])
	asked("Encode")
	bulk.Update(f, k, m, 1, list[1], list[2], list[k:k+m])
	asked("Update")
	bulk.Fits(f, k, m, list)
	asked("Fits")
	bulk.Encode(f, k, m, list[:k-1])
	bulk.Encode(f, k, m, whole)
	bulk.Update(f, k, m, 3, list[1], list[2], list[k:k+m])
	bulk.Update(f, k, m, 1, list[1], list[2], list[k:k+m-1])
	bulk.Update(f, k, m, 1, list[1], list[2][:4], list[k:k+m])
	bulk.Fits(f, k, m, list[:k])
	bulk.Fits(f, k, m, whole)
	asked("a call with an error")
}

// apart wants an answer no two of whose shards share memory with one another or with what was given, spare room too.
func apart(t *testing.T, got [][]byte, given [][]byte, name string) {
	t.Helper()
	want := cloned(got)
	before := unspoilt(given)
	for i, shard := range got {
		all := shard[:cap(shard)]
		for at := range all {
			all[at] ^= 0xFF
		}
		for other := range got {
			if other != i && !bytes.Equal(got[other], want[other]) {
				t.Fatalf("%s: the shards %d and %d share memory", name, i, other)
			}
		}
		copy(shard, want[i])
	}
	for i := range got[:cap(got)] {
		got[:cap(got)][i] = []byte("another")
	}
	if !equal(unspoilt(given), before) {
		t.Fatalf("%s shares memory with what was given", name)
	}
}

// P6.1, R4: answers are in memory of their own.
func TestAnswersApart(t *testing.T) {
	f := gf.New()
	const k, m = 3, 2
	list, whole := roomy(encodedOf(k, m, stripe(10, k, 5)))
	got, _ := bulk.Encode(f, k, m, list[:k])
	apart(t, got, whole, "Encode")
	got, _ = bulk.Encode(f, k, 0, list[:k])
	apart(t, got, whole, "Encode without parity")
	got, _ = bulk.Update(f, k, m, 1, list[1], list[2], list[k:k+m])
	apart(t, got, whole, "Update")
	got, _ = bulk.Update(f, k, m, 1, list[1], list[1], list[k:k+m])
	apart(t, got, whole, "Update by the same shard")
}

// R4: nothing is kept: an answer stays as it was when the arguments change, and a later call answers by its own arguments.
func TestNothingIsKept(t *testing.T) {
	f := gf.New()
	const k, m = 3, 2
	list, _ := roomy(stripe(11, k, 5))
	want := encodedOf(k, m, list)
	got, err := bulk.Encode(f, k, m, list)
	parity, _ := roomy(want[k:])
	updated, second := bulk.Update(f, k, m, 0, list[0], list[1], parity)
	wanted := cloned(updated)
	spoil(list, 0x77)
	spoil(parity, 0x66)
	same(t, got, err, want, "Encode, its arguments changed")
	same(t, updated, second, wanted, "Update, its arguments changed")
	again, err := bulk.Encode(f, k, m, list)
	same(t, again, err, encodedOf(k, m, list), "Encode of what is there now")
	spoil(again, 0x11)
	same(t, got, api.OK, want, "an earlier answer")
}

// R4: shards that are given may be one and the same memory.
func TestSharedArguments(t *testing.T) {
	f := gf.New()
	shard := mixed(12, 6)
	data := [][]byte{shard, shard, shard}
	got, err := bulk.Encode(f, 3, 2, data)
	want := encodedOf(3, 2, data)
	same(t, got, err, want, "Encode of one shard thrice")
	apart(t, got, data, "Encode of one shard thrice")
	got, err = bulk.Update(f, 3, 2, 1, shard, shard, [][]byte{shard, shard})
	same(t, got, err, [][]byte{shard, shard}, "Update of one shard")
	apart(t, got, data, "Update of one shard")
}

// R5: neither spare room nor calls that went before tell.
func TestSameAgain(t *testing.T) {
	const k, m = 4, 3
	data := stripe(13, k, 7)
	want := encodedOf(k, m, data)
	f := gf.New()
	for range 3 {
		list, _ := roomy(data)
		got, err := bulk.Encode(f, k, m, list)
		same(t, got, err, want, "Encode")
		fits(t, f, k, m, got, true, api.OK, "what Encode answers")
		bulk.Encode(f, k, m, list[:2])
		bulk.Update(f, k, m, 0, list[0], list[1], want[k:])
	}
}
