package errdec_test

import (
	"bytes"
	"slices"
	"testing"

	"aumbry/api"
	"aumbry/bulk"
	"aumbry/errdec"
	"aumbry/gf"
	"aumbry/syndrome"
)

// wordsOfCode are all of a code of one or two data shards.
func wordsOfCode(k, m int) [][]byte {
	var all [][]byte
	for a := range 256 {
		if k == 1 {
			all = append(all, wordOf(k, m, []byte{byte(a)}))
			continue
		}
		for b := range 256 {
			all = append(all, wordOf(k, m, []byte{byte(a), byte(b)}))
		}
	}
	return all
}

// nearest asks P10.1's own words of some words of the code: of those that are near enough there may be one alone.
func nearest(t *testing.T, m int, code [][]byte, word []byte, missing []bool) (right []byte, wrong []int, err api.Errno) {
	t.Helper()
	e := count(missing)
	for _, other := range code {
		many := 0
		for i := range other {
			if other[i] != word[i] && !missing[i] {
				many++
			}
		}
		if 2*many+e > m || bytes.Equal(other, right) {
			continue
		}
		if right != nil {
			t.Fatalf("%v and %v are both near %v, where %v are missing", right, other, word, missing)
		}
		right = other
	}
	if right == nil {
		return nil, nil, api.ErrMany
	}
	return right, differs(right, word, missing), api.OK
}

// held wants of Word what the words of the code tell that are tried one by one.
func held(t *testing.T, f *gf.Field, k, m int, code [][]byte, word []byte, missing []bool) api.Errno {
	t.Helper()
	right, wrong, err := nearest(t, m, code, word, missing)
	if err != api.OK {
		refused(t, f, k, m, word, missing, err)
	} else {
		same(t, f, k, m, word, missing, right, wrong)
	}
	return err
}

// solved are the numbers that times the rows are the sums; there must be some of each sums.
func solved(t *testing.T, rows [][]byte, sums []byte) []byte {
	t.Helper()
	many := len(sums)
	work := make([][]byte, many)
	for r := range work {
		work[r] = append(bytes.Clone(rows[r]), sums[r])
	}
	for c := range many {
		found := slices.IndexFunc(work[c:], func(row []byte) bool { return row[c] != 0 })
		if found < 0 {
			t.Fatalf("the test's own rows %v have no inverse", rows)
		}
		work[c], work[c+found] = work[c+found], work[c]
		clearColumn(work, c)
	}
	numbers := make([]byte, many)
	for r := range work {
		numbers[r] = work[r][many]
	}
	return numbers
}

// clearColumn makes the number of the column c 1 in the row c, and 0 in all others.
func clearColumn(rows [][]byte, c int) {
	inverse := inverses[rows[c][c]]
	for i, b := range rows[c] {
		rows[c][i] = products[b][inverse]
	}
	for r, row := range rows {
		if factor := row[c]; r != c && factor != 0 {
			for i, b := range rows[c] {
				row[i] ^= products[b][factor]
			}
		}
	}
}

// through is the word of the code that has these bytes at k places.
func through(t *testing.T, k, m int, word []byte, places []int) []byte {
	t.Helper()
	rows, sums := make([][]byte, k), make([]byte, k)
	for r, place := range places {
		rows[r] = make([]byte, k)
		for j := range k {
			rows[r][j] = wordOf(k, m, one(k, j))[place]
		}
		sums[r] = word[place]
	}
	return wordOf(k, m, solved(t, rows, sums))
}

// one are noughts with a 1 at a place.
func one(many, place int) []byte {
	b := make([]byte, many)
	b[place] = 1
	return b
}

// nearWords are all words of the code that have k of a word's bytes that are not missing: one that is near enough has at least so many.
func nearWords(t *testing.T, k, m int, word []byte, missing []bool) [][]byte {
	t.Helper()
	var all [][]byte
	for choice := range uint(1) << (k + m) {
		marks := chosen(k+m, choice)
		if count(marks) != k {
			continue
		}
		var places []int
		for i, is := range marks {
			if is && !missing[i] {
				places = append(places, i)
			}
		}
		if len(places) == k {
			all = append(all, through(t, k, m, word, places))
		}
	}
	return all
}

// P10.1: answers worked out by hand.
func TestWordByHand(t *testing.T) {
	f := gf.New()
	same(t, f, 1, 1, []byte{5, 5}, words(2), []byte{5, 5}, nil)
	refused(t, f, 1, 1, []byte{5, 4}, words(2), api.ErrMany)
	same(t, f, 1, 1, []byte{0, 5}, words(2, 0), []byte{5, 5}, nil)
	same(t, f, 1, 1, []byte{5, 0}, words(2, 1), []byte{5, 5}, nil)
	refused(t, f, 1, 1, []byte{5, 5}, words(2, 0, 1), api.ErrMany)
	same(t, f, 2, 1, []byte{1, 2, 123}, words(3), []byte{1, 2, 123}, nil)
	same(t, f, 2, 1, []byte{1, 77, 123}, words(3, 1), []byte{1, 2, 123}, nil)
	refused(t, f, 2, 1, []byte{1, 3, 123}, words(3), api.ErrMany)
	refused(t, f, 2, 1, []byte{1, 2, 123}, words(3, 0, 2), api.ErrMany)
	same(t, f, 1, 2, []byte{9, 5, 140}, words(3), []byte{5, 5, 140}, []int{0})
	same(t, f, 1, 2, []byte{5, 5, 0}, words(3), []byte{5, 5, 140}, []int{2})
	refused(t, f, 1, 2, []byte{5, 9, 140}, words(3, 2), api.ErrMany)
	same(t, f, 1, 2, []byte{5, 5, 9}, words(3, 2), []byte{5, 5, 140}, nil)
	same(t, f, 1, 0, []byte{200}, words(1), []byte{200}, nil)
	refused(t, f, 1, 0, []byte{200}, words(1, 0), api.ErrMany)
}

// P10.1: all words of three bytes with one of some first ones: one data byte, and two parity bytes.
func TestWordsOfThreeBytes(t *testing.T) {
	f := gf.New()
	code := wordsOfCode(1, 2)
	several := 0
	for _, a := range []byte{0, 5} {
		for b := range 256 {
			for c := range 256 {
				if held(t, f, 1, 2, code, []byte{a, byte(b), byte(c)}, words(3)) == api.OK {
					several++
				}
			}
		}
	}
	// One has no wrong byte, and those with one at any of the three places are 255 each.
	if several != 2*(1+3*255) {
		t.Fatalf("%d words were put right", several)
	}
	for choice := range uint(8) {
		for seed := range 500 {
			held(t, f, 1, 2, code, mixed(seed, 3), chosen(3, choice))
		}
	}
}

// P10.1: words of small codes of one and of two data shards, all choices of missing ones, held against all words of the code.
func TestAgainstAllWords(t *testing.T) {
	f := gf.New()
	for _, c := range [][3]int{{1, 0, 20}, {1, 1, 20}, {1, 2, 20}, {1, 3, 20}, {1, 4, 20}, {1, 5, 10}, {1, 6, 6}, {1, 7, 4}, {2, 0, 3}, {2, 1, 3}, {2, 2, 3}, {2, 3, 3}, {2, 4, 2}} {
		k, m, seeds := c[0], c[1], c[2]
		code := wordsOfCode(k, m)
		for choice := range uint(1) << (k + m) {
			for seed := range seeds {
				missing := chosen(k+m, choice)
				word := code[(seed*9973+int(choice)*101)%len(code)]
				held(t, f, k, m, code, mixed(seed*300+int(choice), k+m), missing)
				for wrong := 1; wrong <= min(k+m, m/2+2); wrong++ {
					places := shuffled(seed+int(choice)*5+wrong, k+m)[:wrong]
					held(t, f, k, m, code, changed(word, places, differences(seed+wrong, wrong)), missing)
				}
			}
		}
	}
}

// P10.1: words of codes with more data shards, held against all words of the code that are near.
func TestAgainstNearWords(t *testing.T) {
	f := gf.New()
	good, bad := 0, 0
	for _, code := range [][2]int{{3, 2}, {3, 3}, {3, 4}, {3, 5}, {4, 4}, {5, 3}, {4, 5}, {2, 6}} {
		k, m := code[0], code[1]
		for seed := range 24 {
			e := seed % (m + 2)
			missing := words(k+m, shuffled(seed*11, k+m)[:e]...)
			word := wordOf(k, m, mixed(seed+k*m, k))
			wrong := (seed / 3) % (m/2 + 3)
			word = changed(word, shuffled(seed*17+1, k+m)[:wrong], differences(seed, wrong))
			if held(t, f, k, m, nearWords(t, k, m, word, missing), word, missing) == api.OK {
				good++
			} else {
				bad++
			}
		}
	}
	if good < 30 || bad < 30 {
		t.Fatalf("%d words are put right, and %d are not: the test tells too little", good, bad)
	}
}

// hurtWord is a word of the code, the same with wrong and missing bytes, and both kinds of places: missing bytes are others, or not.
func hurtWord(k, m, e, wrong, seed int) (word, hurt []byte, missing []bool, places []int) {
	word = wordOf(k, m, mixed(seed, k))
	order := shuffled(seed, k+m)
	missing, places = words(k+m, order[:e]...), slices.Sorted(slices.Values(order[e:e+wrong]))
	hurt = changed(word, order[:e], mixed(seed+1, e))
	if seed%3 == 0 {
		hurt = bytes.Clone(word)
	}
	return word, changed(hurt, places, differences(seed+2, wrong)), missing, places
}

// P10.1: twice the wrong and once the missing ones up to the parity shards: all is put right, and the places are told.
func TestFewEnough(t *testing.T) {
	f := gf.New()
	for _, code := range smallCodes(9) {
		k, m := code[0], code[1]
		for e := range m + 1 {
			for wrong := 0; 2*wrong+e <= m; wrong++ {
				for seed := range 6 {
					word, hurt, missing, places := hurtWord(k, m, e, wrong, seed+k*100+m*10)
					same(t, f, k, m, hurt, missing, word, places)
				}
			}
		}
	}
}

// P10.1: one more than the parity shards: no word of the code is near enough, as any two differ in more bytes than there are parity shards.
func TestOneMore(t *testing.T) {
	f := gf.New()
	for _, code := range append(smallCodes(9), greatCodes...) {
		k, m := code[0], code[1]
		for wrong := 0; 2*wrong <= m+1; wrong += 1 + m/20 {
			e := m + 1 - 2*wrong
			if e+wrong > k+m {
				continue
			}
			for seed := range 3 {
				_, hurt, missing, _ := hurtWord(k, m, e, wrong, seed+k*100+m*10)
				refused(t, f, k, m, hurt, missing, api.ErrMany)
			}
		}
	}
}

// P10.1: no byte missing and none wrong: the word itself.
func TestNothingToPutRight(t *testing.T) {
	f := gf.New()
	for _, code := range append(smallCodes(10), greatCodes...) {
		k, m := code[0], code[1]
		for seed := range 3 {
			word := wordOf(k, m, mixed(seed, k))
			same(t, f, k, m, word, words(k+m), word, nil)
		}
		same(t, f, k, m, make([]byte, k+m), words(k+m), make([]byte, k+m), nil)
	}
}

// P10.1: any as many missing as there are parity shards are made anew, and any more are too many, whatever stands there.
func TestMissingAlone(t *testing.T) {
	f := gf.New()
	for _, code := range smallCodes(8) {
		k, m := code[0], code[1]
		word := wordOf(k, m, mixed(k*10+m, k))
		for choice := range uint(1) << (k + m) {
			missing := chosen(k+m, choice)
			other := bytes.Clone(word)
			for i, b := range mixed(int(choice), k+m) {
				if missing[i] {
					other[i] = b
				}
			}
			if count(missing) > m {
				refused(t, f, k, m, word, missing, api.ErrMany)
				refused(t, f, k, m, other, missing, api.ErrMany)
			} else {
				same(t, f, k, m, word, missing, word, nil)
				same(t, f, k, m, other, missing, word, nil)
			}
		}
	}
}

// P10.1: as many missing as parity shards: any bytes that are there are those of a word of the code.
func TestAnyBytesOfK(t *testing.T) {
	f := gf.New()
	for _, code := range smallCodes(7) {
		k, m := code[0], code[1]
		for seed := range 10 {
			places := slices.Sorted(slices.Values(shuffled(seed, k+m)[:k]))
			word := mixed(seed+50, k+m)
			same(t, f, k, m, word, others(words(k+m, places...)), through(t, k, m, word, places), nil)
		}
	}
}

// P10.1: what stands at a missing place does not matter, and is not told to be wrong, be it right or any other byte.
func TestMissingByteOfAnyKind(t *testing.T) {
	f := gf.New()
	word := wordOf(3, 4, []byte{7, 0, 255})
	for place := range word {
		missing := words(7, place)
		wrong := (place + 3) % 7
		for b := range 256 {
			hurt := bytes.Clone(word)
			hurt[place] = byte(b)
			same(t, f, 3, 4, hurt, missing, word, nil)
			hurt[wrong] ^= 0x40
			same(t, f, 3, 4, hurt, missing, word, []int{wrong})
		}
	}
}

// P10.1: any byte wrong alone, to any other byte, at the point 0 and at the greatest one too.
func TestOneWrong(t *testing.T) {
	f := gf.New()
	for _, code := range [][2]int{{1, 2}, {3, 2}, {2, 3}, {4, 4}} {
		k, m := code[0], code[1]
		word := wordOf(k, m, mixed(k+m, k))
		for i := range word {
			for difference := 1; difference < 256; difference++ {
				same(t, f, k, m, changed(word, []int{i}, []byte{byte(difference)}), words(k+m), word, []int{i})
			}
		}
	}
	word := wordOf(254, 2, mixed(9, 254))
	for i := range word {
		same(t, f, 254, 2, changed(word, []int{i}, []byte{byte(i) | 1}), words(256), word, []int{i})
	}
}

// P10.1: the byte of the point 0 wrong, or missing, with any one other that is wrong or missing.
func TestPointZero(t *testing.T) {
	f := gf.New()
	for _, code := range [][2]int{{1, 4}, {2, 4}, {3, 4}, {5, 5}} {
		k, m := code[0], code[1]
		word := wordOf(k, m, mixed(k*m, k))
		for i := 1; i < k+m; i++ {
			for seed := range 20 {
				hurt := changed(word, []int{0, i}, differences(seed, 2))
				same(t, f, k, m, hurt, words(k+m), word, []int{0, i})
				same(t, f, k, m, hurt, words(k+m, 0), word, []int{i})
				same(t, f, k, m, hurt, words(k+m, i), word, []int{0})
				same(t, f, k, m, hurt, words(k+m, 0, i), word, nil)
			}
		}
	}
}

// P10.1: without parity shards each word is one of the code, and nothing may be missing.
func TestNoParity(t *testing.T) {
	f := gf.New()
	for _, k := range []int{1, 2, 3, 100, 255, 256} {
		word := mixed(k, k)
		same(t, f, k, 0, word, words(k), word, nil)
		refused(t, f, k, 0, word, words(k, k-1), api.ErrMany)
		refused(t, f, k, 0, word, words(k, 0), api.ErrMany)
		refused(t, f, k, 0, word, all(k), api.ErrMany)
	}
}

// P10.1: codes of as many bytes as may be.
func TestGreatCodes(t *testing.T) {
	f := gf.New()
	for _, code := range greatCodes {
		k, m := code[0], code[1]
		for _, e := range []int{0, 1, m / 2, m - 1, m} {
			if e < 0 || e > m {
				continue
			}
			for _, wrong := range []int{(m - e) / 2, (m - e) / 5} {
				word, hurt, missing, places := hurtWord(k, m, e, wrong, k+e+wrong)
				same(t, f, k, m, hurt, missing, word, places)
			}
		}
	}
}

// P10.1: one data shard and 255 parity shards: 127 bytes wrong, and those of all points but one missing.
func TestMostWrong(t *testing.T) {
	f := gf.New()
	word := wordOf(1, 255, []byte{77})
	var first, last []int
	for i := range 127 {
		first, last = append(first, i), append(last, 129+i)
	}
	same(t, f, 1, 255, changed(word, first, differences(1, 127)), words(256), word, first)
	same(t, f, 1, 255, changed(word, last, differences(2, 127)), words(256), word, last)
	for _, there := range []int{0, 1, 128, 255} {
		hurt := mixed(there, 256)
		hurt[there] = word[there]
		same(t, f, 1, 255, hurt, others(words(256, there)), word, nil)
	}
}

// weightOf is a shard's weight, as chapter 8's words say.
func weightOf(k, m, i int) byte {
	weight := byte(1)
	for shard := k; shard < k+m; shard++ {
		if shard != i {
			weight = products[weight][byte(i^shard)]
		}
	}
	return inverses[weight]
}

// powerOf is a point's power; that of 0 is 1.
func powerOf(point byte, n int) byte {
	power := byte(1)
	for range n {
		power = products[power][point]
	}
	return power
}

// withSyndromes is a word, no matter which, with just these syndromes.
func withSyndromes(t *testing.T, k int, s []byte, seed int) []byte {
	t.Helper()
	m := len(s)
	rows := make([][]byte, m)
	for l := range rows {
		rows[l] = make([]byte, m)
		for i := range m {
			rows[l][i] = products[weightOf(k, m, k+i)][powerOf(byte(k+i), l)]
		}
	}
	word := append(make([]byte, k), solved(t, rows, s)...)
	for i, b := range wordOf(k, m, mixed(seed, k)) {
		word[i] ^= b
	}
	return word
}

// powers are m numbers: a number times the powers of a point.
func powers(m int, number, point byte) []byte {
	s := make([]byte, m)
	for l := range s {
		s[l] = products[number][powerOf(point, l)]
	}
	return s
}

// slopes are m numbers: a number times the derivatives of the powers of a point.
func slopes(m int, number, point byte) []byte {
	s := make([]byte, m)
	for l := 1; l < m; l += 2 {
		s[l] = products[number][powerOf(point, l-1)]
	}
	return s
}

func sum(a, b []byte) []byte {
	all := bytes.Clone(a)
	for i := range all {
		all[i] ^= b[i]
	}
	return all
}

// P10.1: syndromes as of bytes at points that no shard has: there is no such word of the code.
func TestPointsElsewhere(t *testing.T) {
	f := gf.New()
	for _, code := range [][2]int{{1, 2}, {3, 2}, {3, 4}, {4, 6}} {
		k, m := code[0], code[1]
		for point := k + m; point < 256; point++ {
			s := powers(m, byte(point)|1, byte(point))
			refused(t, f, k, m, withSyndromes(t, k, s, point), words(k+m), api.ErrMany)
			if m >= 4 {
				two := sum(s, powers(m, 9, byte(point%(k+m))))
				refused(t, f, k, m, withSyndromes(t, k, two, point), words(k+m), api.ErrMany)
				refused(t, f, k, m, withSyndromes(t, k, two, point), words(k+m, point%(k+m)), api.ErrMany)
			}
		}
		// The same of a point that a shard has is put right.
		for point := range k + m {
			word := withSyndromes(t, k, powers(m, 5, byte(point)), point)
			right := changed(word, []int{point}, []byte{products[5][inverses[weightOf(k, m, point)]]})
			same(t, f, k, m, word, words(k+m), right, []int{point})
		}
	}
}

// P10.1: a locator with a point twice, or with one that is missing, tells of no word of the code.
func TestPointsTwice(t *testing.T) {
	f := gf.New()
	for _, code := range [][2]int{{1, 4}, {3, 4}, {3, 5}, {2, 6}} {
		k, m := code[0], code[1]
		for point := range k + m {
			twice := slopes(m, 7, byte(point))
			for seed, s := range [][]byte{twice, sum(twice, powers(m, 3, byte(point)))} {
				word := withSyndromes(t, k, s, seed)
				refused(t, f, k, m, word, words(k+m), api.ErrMany)
				refused(t, f, k, m, word, words(k+m, point), api.ErrMany)
				held(t, f, k, m, nearWords(t, k, m, word, words(k+m)), word, words(k+m))
				held(t, f, k, m, nearWords(t, k, m, word, words(k+m, point)), word, words(k+m, point))
			}
		}
	}
}

// P10.1: a locator without any roots tells of no word of the code.
func TestNoRoots(t *testing.T) {
	f := gf.New()
	tried := 0
	for c := range 256 {
		roots := 0
		for x := range 256 {
			if products[x][x]^byte(x)^byte(c) == 0 {
				roots++
			}
		}
		if roots > 0 {
			continue
		}
		tried++
		// Each number is made of the two ahead of it, by x's square, x and c.
		s := []byte{byte(c), 1}
		for len(s) < 5 {
			s = append(s, s[len(s)-1]^products[byte(c)][s[len(s)-2]])
		}
		refused(t, f, 5, 4, withSyndromes(t, 5, s[:4], c), words(9), api.ErrMany)
		refused(t, f, 5, 5, withSyndromes(t, 5, s, c), words(10), api.ErrMany)
	}
	if tried != 128 {
		t.Fatalf("%d locators were tried", tried)
	}
}

// P10.1: in a code of all 256 points no point is elsewhere, and yet words may be too far.
func TestNoPointElsewhere(t *testing.T) {
	f := gf.New()
	for seed := range 20 {
		wrong := 3 + seed%4
		_, hurt, missing, _ := hurtWord(252, 4, 0, wrong, seed)
		got, places, err := errdec.Word(f, 252, 4, hurt, missing)
		switch {
		case err == api.ErrMany && len(got) == 0 && len(places) == 0:
		case err == api.OK && isWord(252, 4, got) && len(places) <= 2 && slices.Equal(places, differs(got, hurt, missing)):
		default:
			t.Fatalf("Word of %d wrong bytes of 256 = %v, %v, %d", wrong, told(got), places, err)
		}
	}
}

// P10.1: whatever is given: what is put right is a word of the code with noughts as its syndromes, and its places rise, are not missing, stand there once, and are few enough.
func TestWhatIsPutRight(t *testing.T) {
	f := gf.New()
	right := 0
	for _, code := range append(smallCodes(8), [2]int{20, 10}, [2]int{6, 12}) {
		k, m := code[0], code[1]
		for seed := range 60 {
			e := seed % (m + 1)
			wrong := min(seed%(m/2+2), k+m-e)
			_, hurt, missing, _ := hurtWord(k, m, e, wrong, seed)
			got, places, err := errdec.Word(f, k, m, hurt, missing)
			if err != api.OK {
				continue
			}
			right++
			s, err := syndrome.Of(f, k, m, got)
			if err != api.OK || !bytes.Equal(s, make([]byte, m)) || !isWord(k, m, got) {
				t.Fatalf("Word(%d, %d, %v, %v) = %v, no word of the code", k, m, hurt, missing, got)
			}
			if !slices.Equal(places, differs(got, hurt, missing)) || 2*len(places)+e > m {
				t.Fatalf("Word(%d, %d, %v, %v) = %v, %v", k, m, hurt, missing, got, places)
			}
			for i := 1; i < len(places); i++ {
				if places[i-1] >= places[i] {
					t.Fatalf("places do not rise: %v", places)
				}
			}
			// Putting it right again changes nothing more.
			same(t, f, k, m, got, missing, got, nil)
		}
	}
	if right < 500 {
		t.Fatalf("%d words were put right: the test tells too little", right)
	}
}

// P10.1: words as bulk makes them.
func TestWordsOfBulk(t *testing.T) {
	f := gf.New()
	shards, err := bulk.Encode(f, 5, 6, [][]byte{{'a'}, {'b'}, {'c'}, {'d'}, {'e'}})
	if err != api.OK {
		t.Fatal(err)
	}
	word := bytes.Join(shards, nil)
	hurt := changed(word, []int{1, 4, 9, 10}, []byte{1, 2, 3, 4})
	same(t, f, 5, 6, hurt, words(11, 4, 9), word, []int{1, 10})
	refused(t, f, 5, 6, hurt, words(11), api.ErrMany)
}

// R1, P10.1: no field is told ahead of all else.
func TestWordWithoutField(t *testing.T) {
	for _, k := range numbers {
		for _, m := range numbers {
			refused(t, nil, k, m, nil, nil, api.ErrArg)
			refused(t, nil, k, m, []byte{1, 2, 3}, words(3), api.ErrArg)
		}
	}
	refused(t, nil, 1, 2, []byte{5, 9, 7}, words(3), api.ErrArg)
	refused(t, nil, 1, 2, []byte{5, 5, 140}, words(3), api.ErrArg)
	refused(t, nil, 1, 2, []byte{5, 5, 140}, all(3), api.ErrArg)
}

// P10.1: numbers of shards that may not be, ahead of the lengths.
func TestWordConfig(t *testing.T) {
	f := gf.New()
	for _, k := range numbers {
		for _, m := range numbers {
			if mayBe(k, m) {
				word := wordOf(k, m, mixed(k, k))
				same(t, f, k, m, word, words(k+m), word, nil)
				continue
			}
			refused(t, f, k, m, nil, nil, api.ErrConfig)
			refused(t, f, k, m, []byte{1, 2, 3}, words(3), api.ErrConfig)
			refused(t, f, k, m, []byte{1, 2, 3}, words(2), api.ErrConfig)
			// As many as there would be, where a list may be so long.
			if n := k + m; n >= 0 && n <= 600 {
				refused(t, f, k, m, make([]byte, n), words(n), api.ErrConfig)
				refused(t, f, k, m, make([]byte, n), all(n), api.ErrConfig)
			}
		}
	}
}

// P10.1: words and missing ones of other lengths, ahead of there being too many.
func TestWordLengths(t *testing.T) {
	f := gf.New()
	for _, code := range append(smallCodes(5), [2]int{200, 56}, [2]int{1, 255}) {
		k, m := code[0], code[1]
		for _, length := range []int{0, 1, k, m, k + m - 1, k + m, k + m + 1, 2 * (k + m), 300} {
			for _, marks := range []int{0, 1, k, m, k + m - 1, k + m, k + m + 1, 2 * (k + m), 300} {
				if length == k+m && marks == k+m {
					continue
				}
				refused(t, f, k, m, mixed(length, length), words(marks), api.ErrShard)
				refused(t, f, k, m, mixed(length, length), all(marks), api.ErrShard)
			}
		}
	}
	refused(t, f, 1, 2, nil, words(3), api.ErrShard)
	refused(t, f, 1, 2, []byte{5, 5, 140}, nil, api.ErrShard)
	refused(t, f, 1, 2, nil, nil, api.ErrShard)
}

// R2: each error ahead of those behind it, where they all apply.
func TestOrderOfWordErrors(t *testing.T) {
	f := gf.New()
	refused(t, nil, 0, 2, []byte{5, 9}, all(3), api.ErrArg)
	refused(t, nil, 1, 2, []byte{5, 9}, all(3), api.ErrArg)
	refused(t, nil, 1, 2, []byte{5, 9, 7}, all(3), api.ErrArg)
	refused(t, f, 0, 2, []byte{5, 9, 1}, all(3), api.ErrConfig)
	refused(t, f, 200, 57, make([]byte, 257), all(257), api.ErrConfig)
	refused(t, f, 1, 2, []byte{5, 9}, all(3), api.ErrShard)
	refused(t, f, 1, 2, []byte{5, 9, 7}, all(4), api.ErrShard)
	refused(t, f, 1, 2, []byte{5, 9, 7}, all(3), api.ErrMany)
}

// R1: a field made by hand is one.
func TestWordWithFieldByHand(t *testing.T) {
	f := &gf.Field{}
	for _, code := range [][2]int{{1, 0}, {1, 2}, {2, 3}, {4, 4}} {
		k, m := code[0], code[1]
		for e := range m + 1 {
			word, hurt, missing, places := hurtWord(k, m, e, (m-e)/2, e)
			same(t, f, k, m, hurt, missing, word, places)
		}
	}
	refused(t, f, 1, 2, []byte{5, 9, 7}, words(3), api.ErrMany)
	if *f != (gf.Field{}) {
		t.Fatal("the field has been changed")
	}
}

// wordCase is what Word may be given.
type wordCase struct {
	k, m    int
	word    []byte
	missing []bool
}

// wordCases tell all kinds of answers.
func wordCases() []wordCase {
	cases := []wordCase{
		{1, 2, []byte{5, 9, 140}, words(3)}, {1, 2, []byte{5, 9, 7}, words(3)}, {1, 2, []byte{0, 9, 7}, words(3, 0, 1)},
		{1, 2, []byte{5, 5, 140}, words(3)}, {1, 2, []byte{5, 5, 140}, all(3)}, {1, 2, []byte{5, 5}, words(3)},
		{0, 2, []byte{5, 5}, words(2)}, {2, 0, []byte{5, 6}, words(2)}, {1, 2, nil, nil},
	}
	for seed := range 12 {
		e := seed % 5
		_, hurt, missing, _ := hurtWord(4, 5, e, (5-e)/2, seed)
		cases = append(cases, wordCase{4, 5, hurt, missing})
	}
	return cases
}

// roomy is a copy of a list with spare room; all of it is told by whole.
func roomy[T any](list []T, more ...T) (short, whole []T) {
	whole = append(slices.Clone(list), more...)
	return whole[:len(list)], whole
}

// spoil writes over all that a list holds, spare room too.
func spoil[T any](list []T, with T) {
	room := list[:cap(list)]
	for i := range room {
		room[i] = with
	}
}

// R3, R4: what is handed in is left as it was, by answers and by errors.
func TestWordArgumentsStay(t *testing.T) {
	f := gf.New()
	field := *f
	for _, c := range wordCases() {
		word, wholeWord := roomy(c.word, 0xA5, 0x5A)
		missing, wholeMissing := roomy(c.missing, true, false, true)
		beforeWord, beforeMissing := slices.Clone(wholeWord), slices.Clone(wholeMissing)
		errdec.Word(f, c.k, c.m, word, missing)
		errdec.Word(nil, c.k, c.m, word, missing)
		if !bytes.Equal(wholeWord, beforeWord) || !slices.Equal(wholeMissing, beforeMissing) || *f != field {
			t.Fatalf("what was given has changed: %v", c)
		}
	}
}

// R4, R5: answers lie in memory of their own, spare room too, and a later call answers the same.
func TestWordAnswersApart(t *testing.T) {
	f := gf.New()
	for _, c := range wordCases() {
		word, wholeWord := roomy(c.word, 0xA5, 0x5A)
		missing, wholeMissing := roomy(c.missing, true, false, true)
		beforeWord, beforeMissing := slices.Clone(wholeWord), slices.Clone(wholeMissing)
		right, wrong, err := errdec.Word(f, c.k, c.m, word, missing)
		wantRight, wantWrong := slices.Clone(right), slices.Clone(wrong)
		moreRight, moreWrong, _ := errdec.Word(gf.New(), c.k, c.m, word, missing)
		spoil(moreRight, 0x11)
		spoil(moreWrong, 77)
		if !bytes.Equal(right, wantRight) || !slices.Equal(wrong, wantWrong) {
			t.Fatalf("two answers of %v share memory", c)
		}
		spoil(right, 0x22)
		spoil(wrong, 78)
		if !bytes.Equal(wholeWord, beforeWord) || !slices.Equal(wholeMissing, beforeMissing) {
			t.Fatalf("an answer of %v shares memory with it", c)
		}
		right, wrong, again := errdec.Word(f, c.k, c.m, word, missing)
		if again != err || !bytes.Equal(right, wantRight) || !slices.Equal(wrong, wantWrong) {
			t.Fatalf("Word(%v) was %v, %v, %d and is %v, %v, %d", c, wantRight, wantWrong, err, right, wrong, again)
		}
	}
}

// R4: nothing is kept: an answer stays as it was when what was given changes, and a later call answers by its own.
func TestWordIsNotKept(t *testing.T) {
	f := gf.New()
	want, hurt, missing, places := hurtWord(4, 5, 1, 2, 1)
	right, wrong, err := errdec.Word(f, 4, 5, hurt, missing)
	spoil(hurt, 0x33)
	spoil(missing, true)
	if err != api.OK || !bytes.Equal(right, want) || !slices.Equal(wrong, places) {
		t.Fatalf("the answer has changed with what was given: %v, %v, %d", right, wrong, err)
	}
	refused(t, f, 4, 5, hurt, missing, api.ErrMany)
	same(t, f, 4, 5, want, words(9), want, nil)
}
