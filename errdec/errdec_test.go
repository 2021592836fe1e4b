package errdec_test

import (
	"bytes"
	"math"
	"slices"
	"testing"

	"aumbry/api"
	"aumbry/errdec"
	"aumbry/gf"
)

// product multiplies two numbers bit by bit, without package gf.
func product(a, b byte) byte {
	var r byte
	for range 8 {
		if b&1 == 1 {
			r ^= a
		}
		high := a&0x80 != 0
		a <<= 1
		if high {
			a ^= 0x1D
		}
		b >>= 1
	}
	return r
}

// products are told once, for the tests of many words.
var products = func() (all [256][256]byte) {
	for a := range 256 {
		for b := range 256 {
			all[a][b] = product(byte(a), byte(b))
		}
	}
	return all
}()

// inverses are sought by trying all numbers; that of 0 stays 0.
var inverses = func() (all [256]byte) {
	for a := range 256 {
		for b := range 256 {
			if products[a][b] == 1 {
				all[a] = byte(b)
			}
		}
	}
	return all
}()

// mixed are bytes that hang on the seed and their places alone.
func mixed(seed, length int) []byte {
	b := make([]byte, length)
	x := uint32(seed)*2654435761 + 12345
	for i := range b {
		x ^= x << 13
		x ^= x >> 17
		x ^= x << 5
		b[i] = byte(x >> 11)
	}
	return b
}

// differences are mixed bytes of which none is 0.
func differences(seed, length int) []byte {
	b := mixed(seed, length)
	for i := range b {
		if b[i] == 0 {
			b[i] = 91
		}
	}
	return b
}

// shuffled are the numbers from 0 to many - 1, in an order that hangs on the seed alone.
func shuffled(seed, many int) []int {
	order := make([]int, many)
	for i := range order {
		order[i] = i
	}
	keys := mixed(seed+7, many)
	slices.SortStableFunc(order, func(a, b int) int { return int(keys[a]) - int(keys[b]) })
	return order
}

// wordOf is a word of the code, told as the chapters 5 and 6 say it, without packages of the project.
func wordOf(k, m int, data []byte) []byte {
	word := bytes.Clone(data)
	for i := range m {
		var sum byte
		for j := range k {
			sum ^= products[inverses[(k+i)^j]][data[j]]
		}
		word = append(word, sum)
	}
	return word
}

// isWord tells whether a word is one of the code.
func isWord(k, m int, word []byte) bool {
	return len(word) == k+m && bytes.Equal(wordOf(k, m, word[:k]), word)
}

// changed is a copy of a word with other bytes at some places.
func changed(word []byte, places []int, by []byte) []byte {
	other := bytes.Clone(word)
	for i, place := range places {
		other[place] ^= by[i]
	}
	return other
}

// words are bools, many of them, of which those at the places given are true.
func words(many int, places ...int) []bool {
	marks := make([]bool, many)
	for _, place := range places {
		marks[place] = true
	}
	return marks
}

// others are true just where marks are not.
func others(marks []bool) []bool {
	all := make([]bool, len(marks))
	for i := range marks {
		all[i] = !marks[i]
	}
	return all
}

func all(many int) []bool {
	return slices.Repeat([]bool{true}, many)
}

// chosen are bools, by the bits of a number.
func chosen(many int, choice uint) []bool {
	marks := make([]bool, many)
	for i := range marks {
		marks[i] = choice>>i&1 == 1
	}
	return marks
}

func count(marks []bool) int {
	many := 0
	for _, is := range marks {
		if is {
			many++
		}
	}
	return many
}

// differs are the places at which two words differ that are not missing, rising.
func differs(a, b []byte, missing []bool) []int {
	var places []int
	for i := range a {
		if a[i] != b[i] && !missing[i] {
			places = append(places, i)
		}
	}
	return places
}

// smallCodes are all of at most so many shards.
func smallCodes(most int) [][2]int {
	var codes [][2]int
	for k := 1; k <= most; k++ {
		for m := range most - k + 1 {
			codes = append(codes, [2]int{k, m})
		}
	}
	return codes
}

// greatCodes are those with as many shards as may be, and some beside them.
var greatCodes = [][2]int{
	{256, 0}, {255, 1}, {254, 2}, {253, 3}, {200, 56}, {129, 127}, {128, 128}, {56, 200}, {2, 254}, {1, 255}, {40, 30}, {17, 16},
}

// numbers are those at the limits, and others, some of whose sums wrap round.
var numbers = []int{
	0, 1, 2, 3, 127, 128, 129, 200, 255, 256, 257, 511, 1 << 16, 1 << 31, 1 << 32, 1<<32 + 1, 1 << 62,
	-1, -2, -255, -256, -257, -1 << 32, -1 << 62,
	math.MaxInt, math.MaxInt - 1, math.MaxInt - 255, math.MinInt, math.MinInt + 1, math.MinInt + 256,
}

// mayBe asks the words of cauchy.Check one by one, without sums that wrap round.
func mayBe(k, m int) bool {
	return k >= 1 && k <= 256 && m >= 0 && m <= 256-k
}

// told are bytes, for a message: how many, if they are many.
func told(b []byte) any {
	if len(b) > 40 {
		return len(b)
	}
	return b
}

// same wants a word that is put right, and the places that were wrong.
func same(t *testing.T, f *gf.Field, k, m int, word []byte, missing []bool, want []byte, wrong []int) {
	t.Helper()
	got, places, err := errdec.Word(f, k, m, word, missing)
	if err != api.OK || !bytes.Equal(got, want) || !slices.Equal(places, wrong) {
		t.Fatalf("Word(%d, %d, %v, %v) = %v, %v, %d, want %v, %v", k, m, told(word), missing, told(got), places, err, told(want), wrong)
	}
}

// refused wants an error of Word, and nothing beside it.
func refused(t *testing.T, f *gf.Field, k, m int, word []byte, missing []bool, want api.Errno) {
	t.Helper()
	got, places, err := errdec.Word(f, k, m, word, missing)
	if err != want || len(got) != 0 || len(places) != 0 {
		t.Fatalf("Word(%d, %d, %v, %v) = %v, %v, %d, want error %d", k, m, told(word), missing, told(got), places, err, want)
	}
}

// The chapter's examples.
func TestExamples(t *testing.T) {
	f := gf.New()
	same(t, f, 1, 2, []byte{5, 9, 140}, words(3), []byte{5, 5, 140}, []int{1})
	refused(t, f, 1, 2, []byte{5, 9, 7}, words(3), api.ErrMany)
	same(t, f, 1, 2, []byte{0, 9, 7}, words(3, 0, 1), []byte{14, 14, 7}, nil)
}

// The section Errors.
func TestNumbers(t *testing.T) {
	f := gf.New()
	if _, _, err := errdec.Word(nil, 1, 1, []byte{5, 5}, words(2)); err != 1 {
		t.Errorf("Word without a field: %d", err)
	}
	if _, _, err := errdec.Word(f, 0, 1, []byte{5}, words(1)); err != 50 {
		t.Errorf("Word of no data: %d", err)
	}
	if _, _, err := errdec.Word(f, 1, 1, []byte{5}, words(2)); err != 60 {
		t.Errorf("Word of a byte too few: %d", err)
	}
	if _, _, err := errdec.Word(f, 1, 1, []byte{5, 4}, words(2)); err != 100 {
		t.Errorf("Word with too many wrong: %d", err)
	}
	if _, _, err := errdec.Shards(nil, 1, 1, all(2), [][]byte{{5}, {5}}); err != 1 {
		t.Errorf("Shards without a field: %d", err)
	}
	if _, _, err := errdec.Shards(f, 0, 1, all(1), [][]byte{{5}}); err != 50 {
		t.Errorf("Shards of no data: %d", err)
	}
	if _, _, err := errdec.Shards(f, 1, 1, words(2), [][]byte{{5}, {5}}); err != 60 {
		t.Errorf("Shards of which none is there: %d", err)
	}
	if _, _, err := errdec.Shards(f, 1, 1, all(2), [][]byte{{5}, {4}}); err != 100 {
		t.Errorf("Shards with too many wrong: %d", err)
	}
}
