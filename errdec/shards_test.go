package errdec_test

import (
	"bytes"
	"slices"
	"testing"

	"aumbry/api"
	"aumbry/bulk"
	"aumbry/errdec"
	"aumbry/gf"
)

func cloned(shards [][]byte) [][]byte {
	own := make([][]byte, len(shards))
	for i, shard := range shards {
		own[i] = bytes.Clone(shard)
	}
	return own
}

// stripe are all shards of mixed data, made place by place without packages of the project.
func stripe(seed, k, m, length int) [][]byte {
	shards := make([][]byte, k+m)
	for i := range shards {
		shards[i] = make([]byte, length)
	}
	for at := range length {
		put(shards, at, wordOf(k, m, mixed(seed*1000+at, k)))
	}
	return shards
}

// put puts a word's bytes at a place of shards.
func put(shards [][]byte, at int, word []byte) {
	for i, b := range word {
		shards[i][at] = b
	}
}

// wordAt are the bytes at a place, 0 where a shard is not there.
func wordAt(has []bool, shards [][]byte, at int) []byte {
	word := make([]byte, len(shards))
	for i := range word {
		if has[i] {
			word[i] = shards[i][at]
		}
	}
	return word
}

func equal(a, b [][]byte) bool {
	return slices.EqualFunc(a, b, bytes.Equal)
}

// toldShards are shards, for a message: how many, and how long the first is, if they are many bytes.
func toldShards(shards [][]byte) any {
	if len(shards) > 0 && len(shards)*len(shards[0]) > 60 {
		return [2]int{len(shards), len(shards[0])}
	}
	return shards
}

// sameShards wants shards that are put right, and those that were wrong.
func sameShards(t *testing.T, f *gf.Field, k, m int, has []bool, shards, want [][]byte, wrong []int) {
	t.Helper()
	got, places, err := errdec.Shards(f, k, m, has, shards)
	if err != api.OK || !equal(got, want) || !slices.Equal(places, wrong) {
		t.Fatalf("Shards(%d, %d, %v, %v) = %v, %v, %d, want %v, %v", k, m, has, toldShards(shards), toldShards(got), places, err, toldShards(want), wrong)
	}
}

// refusedShards wants an error of Shards, and nothing beside it.
func refusedShards(t *testing.T, f *gf.Field, k, m int, has []bool, shards [][]byte, want api.Errno) {
	t.Helper()
	got, places, err := errdec.Shards(f, k, m, has, shards)
	if err != want || len(got) != 0 || len(places) != 0 {
		t.Fatalf("Shards(%d, %d, %v, %v) = %v, %v, %d, want error %d", k, m, has, toldShards(shards), toldShards(got), places, err, want)
	}
}

// byWords is what P10.2 asks of shards that may be, by Word of each place.
func byWords(f *gf.Field, k, m, length int, has []bool, shards [][]byte) (whole [][]byte, wrong []int, err api.Errno) {
	whole = make([][]byte, k+m)
	for i := range whole {
		whole[i] = make([]byte, length)
	}
	hurt := make([]bool, k+m)
	for at := range length {
		word, places, err := errdec.Word(f, k, m, wordAt(has, shards, at), others(has))
		if err != api.OK {
			return nil, nil, err
		}
		put(whole, at, word)
		for _, i := range places {
			hurt[i] = true
		}
	}
	for i, is := range hurt {
		if is {
			wrong = append(wrong, i)
		}
	}
	return whole, wrong, api.OK
}

// heldShards wants of Shards what Word of each place tells.
func heldShards(t *testing.T, f *gf.Field, k, m, length int, has []bool, shards [][]byte) api.Errno {
	t.Helper()
	whole, wrong, err := byWords(f, k, m, length, has, shards)
	if err != api.OK {
		refusedShards(t, f, k, m, has, shards, err)
	} else {
		sameShards(t, f, k, m, has, shards, whole, wrong)
	}
	return err
}

// hurtStripe is a stripe, the same with e shards that are not there, of any length, and at each place so many wrong bytes, and the shards in which these are.
func hurtStripe(k, m, length, e, wrong, seed int) (whole, hurt [][]byte, has []bool, bad []int) {
	whole = stripe(seed, k, m, length)
	order := shuffled(seed, k+m)
	has = others(words(k+m, order[:e]...))
	hurt = cloned(whole)
	for i, place := range order[:e] {
		hurt[place] = mixed(place, i*7%(length+9))
	}
	marks := words(k + m)
	there := order[e:]
	for at := range length {
		for i, by := range differences(seed+at, wrong) {
			place := there[(at*3+i)%len(there)]
			hurt[place][at] ^= by
			marks[place] = true
		}
	}
	for i, is := range marks {
		if is {
			bad = append(bad, i)
		}
	}
	return whole, hurt, has, bad
}

// P10.2: answers worked out by hand.
func TestShardsByHand(t *testing.T) {
	f := gf.New()
	want := [][]byte{{5, 1, 14}, {5, 1, 14}, {140, 142, 7}}
	sameShards(t, f, 1, 2, all(3), want, want, nil)
	hurt := cloned(want)
	hurt[1][0] = 9
	sameShards(t, f, 1, 2, all(3), hurt, want, []int{1})
	hurt[2][1]++
	sameShards(t, f, 1, 2, all(3), hurt, want, []int{1, 2})
	hurt[0][2]++
	sameShards(t, f, 1, 2, all(3), hurt, want, []int{0, 1, 2})
	hurt[1][2] += 2
	refusedShards(t, f, 1, 2, all(3), hurt, api.ErrMany)
	sameShards(t, f, 1, 2, words(3, 2), [][]byte{nil, {9}, {140, 142, 7}}, want, nil)
	sameShards(t, f, 2, 1, words(3, 0, 2), [][]byte{{1}, nil, {123}}, [][]byte{{1}, {2}, {123}}, nil)
	refusedShards(t, f, 2, 1, words(3, 0), [][]byte{{1}, {2}, {123}}, api.ErrMany)
	refusedShards(t, f, 2, 1, all(3), [][]byte{{1}, {2}, {122}}, api.ErrMany)
}

// P10.2: held against Word of each place, for all choices of those that are there, with more and with fewer wrong bytes.
func TestShardsAgainstWord(t *testing.T) {
	f := gf.New()
	good, bad := 0, 0
	for _, code := range smallCodes(7) {
		k, m := code[0], code[1]
		for choice := range uint(1) << (k + m) {
			has := chosen(k+m, choice)
			if count(has) == 0 {
				continue
			}
			seed := int(choice) + k*100
			shards := stripe(seed, k, m, 5)
			for at := range seed % 6 {
				shards[(seed*3+at*at)%(k+m)][at] ^= 0x15
			}
			for i := range shards {
				if !has[i] {
					shards[i] = mixed(i, seed*i%11)
				}
			}
			if heldShards(t, f, k, m, 5, has, shards) == api.OK {
				good++
			} else {
				bad++
			}
		}
	}
	if good < 100 || bad < 100 {
		t.Fatalf("%d are put right, and %d are not: the test tells too little", good, bad)
	}
}

// P10.2: shards of bytes that belong to no stripe.
func TestShardsOfAnyBytes(t *testing.T) {
	f := gf.New()
	for _, code := range smallCodes(6) {
		k, m := code[0], code[1]
		for seed := range 8 {
			shards := make([][]byte, k+m)
			for i := range shards {
				shards[i] = mixed(seed*50+i, 2)
			}
			heldShards(t, f, k, m, 2, all(k+m), shards)
			heldShards(t, f, k, m, 2, words(k+m, shuffled(seed, k+m)[:k]...), shards)
		}
	}
}

// P10.3: few enough missing and wrong at each place: all is put right, the wrong shards are told, and what is put right is a stripe.
func TestStripesAreMended(t *testing.T) {
	f := gf.New()
	for _, code := range append(smallCodes(8), [2]int{10, 6}, [2]int{5, 12}) {
		k, m := code[0], code[1]
		for e := range m + 1 {
			for wrong := 0; 2*wrong+e <= m; wrong++ {
				for _, length := range []int{1, 4, 17} {
					whole, hurt, has, bad := hurtStripe(k, m, length, e, wrong, k*20+m+e*3+length)
					sameShards(t, f, k, m, has, hurt, whole, bad)
				}
			}
		}
	}
}

// P10.2, P10.3: of a stripe any few enough shards missing and wrong, one by one and all choices of both.
func TestAnyShards(t *testing.T) {
	f := gf.New()
	for _, code := range [][2]int{{1, 3}, {2, 2}, {2, 3}, {2, 4}, {3, 3}} {
		k, m := code[0], code[1]
		whole := stripe(k*m, k, m, 2)
		for choice := range uint(1) << (2 * (k + m)) {
			missing, wrong := chosen(k+m, choice), chosen(k+m, choice>>(k+m))
			if slices.ContainsFunc(shuffled(0, k+m), func(i int) bool { return missing[i] && wrong[i] }) {
				continue
			}
			e, many := count(missing), count(wrong)
			if 2*many+e > m+1 || e == k+m {
				continue
			}
			hurt := cloned(whole)
			var bad []int
			for i := range hurt {
				if missing[i] {
					hurt[i] = nil
				}
				if wrong[i] {
					hurt[i][int(choice)%2] ^= byte(choice)%100 + 1
					bad = append(bad, i)
				}
			}
			if 2*many+e <= m {
				sameShards(t, f, k, m, others(missing), hurt, whole, bad)
			} else {
				refusedShards(t, f, k, m, others(missing), hurt, api.ErrMany)
			}
		}
	}
}

// P10.3: what is put right is a stripe, whatever it was made of.
func TestWhatIsPutRightFits(t *testing.T) {
	f := gf.New()
	right := 0
	for _, code := range smallCodes(8) {
		k, m := code[0], code[1]
		for seed := range 30 {
			e := seed % (m + 1)
			_, hurt, has, _ := hurtStripe(k, m, 3, e, min((m-e)/2+seed%2, k+m-e), seed)
			got, wrong, err := errdec.Shards(f, k, m, has, hurt)
			if err != api.OK {
				continue
			}
			right++
			if fits, err := bulk.Fits(f, k, m, got); !fits || err != api.OK {
				t.Fatalf("Shards(%d, %d, %v, %v) = %v, no stripe: %d", k, m, has, hurt, got, err)
			}
			for i, shard := range got {
				differs := has[i] && !bytes.Equal(shard, hurt[i])
				if differs != slices.Contains(wrong, i) {
					t.Fatalf("Shards(%d, %d, %v, %v) = %v, %v", k, m, has, hurt, got, wrong)
				}
			}
			if !slices.IsSorted(wrong) || len(slices.Compact(slices.Clone(wrong))) != len(wrong) {
				t.Fatalf("the shards that were wrong do not rise: %v", wrong)
			}
			sameShards(t, f, k, m, all(k+m), got, got, nil)
		}
	}
	if right < 300 {
		t.Fatalf("%d were put right: the test tells too little", right)
	}
}

// P10.2: no shard missing and none wrong.
func TestWholeShards(t *testing.T) {
	f := gf.New()
	for _, code := range append(smallCodes(6), greatCodes...) {
		k, m := code[0], code[1]
		whole := stripe(k, k, m, 3)
		sameShards(t, f, k, m, all(k+m), whole, whole, nil)
	}
}

// P10.2: each shard may be wrong somewhere, where each place has few enough.
func TestEachShardIsWrong(t *testing.T) {
	f := gf.New()
	whole := stripe(1, 4, 3, 7)
	hurt := cloned(whole)
	for i := range hurt {
		hurt[i][6-i] ^= byte(i + 1)
	}
	sameShards(t, f, 4, 3, all(7), hurt, whole, []int{0, 1, 2, 3, 4, 5, 6})
	has := others(words(7, 2))
	hurt[2] = []byte("other bytes")
	sameShards(t, f, 4, 3, has, hurt, whole, []int{0, 1, 3, 4, 5, 6})
}

// P10.2: a shard that is wrong at several places is told once.
func TestWrongOnce(t *testing.T) {
	f := gf.New()
	whole := stripe(2, 3, 4, 9)
	hurt := cloned(whole)
	for at := range 9 {
		hurt[5][at]++
		hurt[1][at] += byte(at % 2)
	}
	sameShards(t, f, 3, 4, all(7), hurt, whole, []int{1, 5})
}

// P10.2: one place that is not put right, be it the first, the last or another one, spoils all.
func TestOnePlaceTooMany(t *testing.T) {
	f := gf.New()
	whole := stripe(3, 3, 4, 10)
	for at := range 10 {
		hurt := cloned(whole)
		hurt[0][4] ^= 9
		for _, i := range []int{1, 2, 6} {
			hurt[i][at] ^= byte(i + at + 1)
		}
		want, _, err := nearest(t, 4, nearWords(t, 3, 4, wordAt(all(7), hurt, at), words(7)), wordAt(all(7), hurt, at), words(7))
		if err != api.ErrMany {
			t.Fatalf("the test's own word is near %v", want)
		}
		refusedShards(t, f, 3, 4, all(7), hurt, api.ErrMany)
	}
}

// P10.2: as many missing as parity shards, and one more.
func TestShardsMissing(t *testing.T) {
	f := gf.New()
	for _, code := range append(smallCodes(7), greatCodes...) {
		k, m := code[0], code[1]
		whole, hurt, has, _ := hurtStripe(k, m, 2, m, 0, k+m)
		sameShards(t, f, k, m, has, hurt, whole, nil)
		if k > 1 {
			_, hurt, has, _ = hurtStripe(k, m, 2, m+1, 0, k+m)
			refusedShards(t, f, k, m, has, hurt, api.ErrMany)
		}
	}
}

// P10.2: great codes with missing and wrong shards.
func TestGreatStripes(t *testing.T) {
	f := gf.New()
	for _, code := range greatCodes {
		k, m := code[0], code[1]
		for _, e := range []int{0, m / 3} {
			whole, hurt, has, bad := hurtStripe(k, m, 2, e, (m-e)/2, k+e)
			sameShards(t, f, k, m, has, hurt, whole, bad)
		}
	}
}

// P10.2: long shards.
func TestLongShards(t *testing.T) {
	f := gf.New()
	whole, hurt, has, bad := hurtStripe(4, 4, 4096, 1, 1, 5)
	sameShards(t, f, 4, 4, has, hurt, whole, bad)
	whole, hurt, has, bad = hurtStripe(2, 1, 20000, 0, 0, 6)
	sameShards(t, f, 2, 1, has, hurt, whole, bad)
	hurt[1][19999] ^= 1
	refusedShards(t, f, 2, 1, has, hurt, api.ErrMany)
}

// P10.2: without parity shards all must be there, and are what they were.
func TestShardsWithoutParity(t *testing.T) {
	f := gf.New()
	for _, k := range []int{1, 2, 5, 256} {
		whole := stripe(k, k, 0, 3)
		sameShards(t, f, k, 0, all(k), whole, whole, nil)
		if k > 1 {
			refusedShards(t, f, k, 0, others(words(k, k/2)), whole, api.ErrMany)
		}
	}
}

// P10.2: shards of no bytes have no place that could not be put right: all are answered, however few are there, if one is.
func TestShardsOfNoBytes(t *testing.T) {
	f := gf.New()
	for _, code := range append(smallCodes(6), [2]int{256, 0}, [2]int{100, 156}) {
		k, m := code[0], code[1]
		empty := make([][]byte, k+m)
		sameShards(t, f, k, m, all(k+m), empty, empty, nil)
		for i := range k + m {
			empty[i] = []byte{}
			sameShards(t, f, k, m, words(k+m, i), empty, make([][]byte, k+m), nil)
		}
		refusedShards(t, f, k, m, words(k+m), empty, api.ErrShard)
	}
	sameShards(t, f, 2, 1, words(3, 1), [][]byte{{1, 2}, {}, {3}}, make([][]byte, 3), nil)
	refusedShards(t, f, 2, 1, words(3, 0, 1), [][]byte{{1, 2}, {}, {3}}, api.ErrShard)
}

// P10.2: no shard there at all.
func TestNoShardThere(t *testing.T) {
	f := gf.New()
	for _, code := range append(smallCodes(6), greatCodes...) {
		k, m := code[0], code[1]
		refusedShards(t, f, k, m, words(k+m), stripe(1, k, m, 2), api.ErrShard)
		refusedShards(t, f, k, m, words(k+m), make([][]byte, k+m), api.ErrShard)
	}
}

// P10.2: shards that are there of unlike lengths, one of them shorter or longer, any of them.
func TestUnlikeLengths(t *testing.T) {
	f := gf.New()
	for _, code := range smallCodes(6) {
		k, m := code[0], code[1]
		for i := range k + m {
			for _, length := range []int{0, 1, 2, 4, 5, 300} {
				shards := stripe(1, k, m, 3)
				shards[i] = mixed(i, length)
				if k+m > 1 {
					refusedShards(t, f, k, m, all(k+m), shards, api.ErrShard)
				}
				has := others(words(k+m, i))
				switch {
				case k+m == 1:
				case m == 0:
					refusedShards(t, f, k, m, has, shards, api.ErrMany)
				default:
					sameShards(t, f, k, m, has, shards, stripe(1, k, m, 3), nil)
				}
			}
		}
	}
	// The first that is there is not the one to be held against, if it alone is another one.
	refusedShards(t, f, 2, 2, words(4, 1, 2), [][]byte{{1, 2}, {1}, {1, 2}, {1, 2}}, api.ErrShard)
	refusedShards(t, f, 2, 2, words(4, 0), [][]byte{{1, 2}, {1}, {1, 2}, {1, 2}}, api.ErrMany)
}

// P10.2: lists of other lengths.
func TestHowManyShards(t *testing.T) {
	f := gf.New()
	for _, code := range smallCodes(4) {
		k, m := code[0], code[1]
		for many := range 2*(k+m) + 2 {
			for marks := range 2*(k+m) + 2 {
				if many == k+m && marks == k+m {
					continue
				}
				shards := make([][]byte, many)
				for i := range shards {
					shards[i] = []byte{7}
				}
				refusedShards(t, f, k, m, all(marks), shards, api.ErrShard)
				refusedShards(t, f, k, m, words(marks), shards, api.ErrShard)
			}
		}
	}
	refusedShards(t, f, 1, 1, nil, nil, api.ErrShard)
	refusedShards(t, f, 256, 0, all(257), make([][]byte, 257), api.ErrShard)
}

// R1, P10.2: no field is told ahead of all else.
func TestShardsWithoutField(t *testing.T) {
	for _, k := range numbers {
		for _, m := range numbers {
			refusedShards(t, nil, k, m, nil, nil, api.ErrArg)
			refusedShards(t, nil, k, m, all(3), [][]byte{{1}, {2, 3}, nil}, api.ErrArg)
		}
	}
	refusedShards(t, nil, 2, 1, all(3), [][]byte{{1}, {2}, {123}}, api.ErrArg)
	refusedShards(t, nil, 2, 1, words(3), [][]byte{{1}, {2}, {123}}, api.ErrArg)
	refusedShards(t, nil, 2, 1, all(3), make([][]byte, 3), api.ErrArg)
}

// P10.2: numbers of shards that may not be, ahead of lengths.
func TestShardsConfig(t *testing.T) {
	f := gf.New()
	for _, k := range numbers {
		for _, m := range numbers {
			if mayBe(k, m) {
				whole := stripe(1, k, m, 1)
				sameShards(t, f, k, m, all(k+m), whole, whole, nil)
				continue
			}
			refusedShards(t, f, k, m, nil, nil, api.ErrConfig)
			refusedShards(t, f, k, m, all(3), [][]byte{{1}, {2, 3}, nil}, api.ErrConfig)
			if n := k + m; n >= 0 && n <= 600 {
				refusedShards(t, f, k, m, all(n), make([][]byte, n), api.ErrConfig)
			}
		}
	}
}

// R2: each error ahead of those behind it, where they all apply.
func TestOrderOfShardsErrors(t *testing.T) {
	f := gf.New()
	unlike := [][]byte{{1}, {2, 3}, {4}}
	refusedShards(t, nil, 0, 1, all(3), unlike, api.ErrArg)
	refusedShards(t, nil, 2, 1, all(3), unlike, api.ErrArg)
	refusedShards(t, f, 0, 3, all(3), unlike, api.ErrConfig)
	refusedShards(t, f, 256, 1, words(3), unlike, api.ErrConfig)
	// The first two are too few, and of unlike lengths.
	refusedShards(t, f, 3, 0, words(3, 0, 1), unlike, api.ErrShard)
	refusedShards(t, f, 2, 1, words(3), unlike, api.ErrShard)
	refusedShards(t, f, 3, 0, words(3, 0, 2), unlike, api.ErrMany)
	// Places up to the shorter one's end would be too many ahead of the end.
	refusedShards(t, f, 1, 1, all(2), [][]byte{{1, 2}, {3}}, api.ErrShard)
}

// R1: a field made by hand is one.
func TestShardsWithFieldByHand(t *testing.T) {
	f := &gf.Field{}
	whole, hurt, has, bad := hurtStripe(3, 4, 3, 1, 1, 8)
	sameShards(t, f, 3, 4, has, hurt, whole, bad)
	if *f != (gf.Field{}) {
		t.Fatal("the field has been changed")
	}
}

// shardsCase is what Shards may be given.
type shardsCase struct {
	k, m   int
	has    []bool
	shards [][]byte
}

// shardsCases tell all kinds of answers.
func shardsCases() []shardsCase {
	cases := []shardsCase{
		{2, 1, all(3), [][]byte{{1}, {2}, {123}}}, {2, 1, words(3, 0, 2), [][]byte{{1}, {9, 9}, {123}}}, {2, 1, all(3), [][]byte{{1}, {2}, {3}}},
		{2, 1, words(3), [][]byte{{1}, {2}, {123}}}, {2, 1, all(3), [][]byte{{1}, {2, 3}, {123}}}, {2, 1, all(3), make([][]byte, 3)},
		{0, 1, all(1), [][]byte{{1}}}, {2, 1, nil, nil}, {2, 0, all(2), [][]byte{{1, 2}, {3, 4}}}, {1, 1, words(2, 0), [][]byte{{1}, nil}},
	}
	for seed := range 12 {
		e := seed % 5
		_, hurt, has, _ := hurtStripe(4, 5, seed, e, (5-e)/2, seed)
		cases = append(cases, shardsCase{4, 5, has, hurt})
	}
	return cases
}

// roomyShards are copies of shards, each with spare room, in a list with spare room; all of it is told by whole, and the list by list.
func roomyShards(shards [][]byte) (short, list, whole [][]byte) {
	own := make([][]byte, len(shards))
	for i, shard := range shards {
		short, all := roomy(shard, 0xA5, 0x5A, 0xC3)
		own[i], whole = short, append(whole, all)
	}
	short, list = roomy(own, []byte{1, 2}, nil)
	return short, list, whole
}

// R3, R4: what is handed in is left as it was, by answers and by errors.
func TestShardsArgumentsStay(t *testing.T) {
	f := gf.New()
	field := *f
	for _, c := range shardsCases() {
		shards, list, whole := roomyShards(c.shards)
		has, wholeHas := roomy(c.has, true, false, true)
		beforeList, beforeWhole, beforeHas := cloned(list), cloned(whole), slices.Clone(wholeHas)
		errdec.Shards(f, c.k, c.m, has, shards)
		errdec.Shards(nil, c.k, c.m, has, shards)
		if !equal(list, beforeList) || !equal(whole, beforeWhole) || !slices.Equal(wholeHas, beforeHas) || *f != field {
			t.Fatalf("what was given has changed: %v", c)
		}
	}
}

// R4, R5: answers lie in memory of their own, spare room too, each shard apart from the others, and a later call answers the same.
func TestShardsAnswersApart(t *testing.T) {
	f := gf.New()
	for _, c := range shardsCases() {
		shards, list, whole := roomyShards(c.shards)
		has, wholeHas := roomy(c.has, true, false, true)
		beforeList, beforeWhole, beforeHas := cloned(list), cloned(whole), slices.Clone(wholeHas)
		got, wrong, err := errdec.Shards(f, c.k, c.m, has, shards)
		want, wantWrong := cloned(got), slices.Clone(wrong)
		more, moreWrong, _ := errdec.Shards(gf.New(), c.k, c.m, has, shards)
		for _, shard := range more {
			spoil(shard, 0x11)
		}
		spoil(more, []byte("spoilt"))
		spoil(moreWrong, 77)
		if !equal(got, want) || !slices.Equal(wrong, wantWrong) {
			t.Fatalf("two answers of %v share memory", c)
		}
		for i, shard := range got {
			spoil(shard, 0x22)
			if !equal(got[i+1:], want[i+1:]) {
				t.Fatalf("two shards of the answer of %v share memory", c)
			}
		}
		for i, shard := range got {
			if bytes.ContainsFunc(shard, func(r rune) bool { return r != 0x22 }) {
				t.Fatalf("the shard %d of the answer of %v shares memory", i, c)
			}
		}
		spoil(got, []byte("spoilt"))
		spoil(wrong, 78)
		if !equal(list, beforeList) || !equal(whole, beforeWhole) || !slices.Equal(wholeHas, beforeHas) {
			t.Fatalf("an answer of %v shares memory with it", c)
		}
		got, wrong, again := errdec.Shards(f, c.k, c.m, has, shards)
		if again != err || !equal(got, want) || !slices.Equal(wrong, wantWrong) {
			t.Fatalf("Shards(%v) was %v, %v, %d and is %v, %v, %d", c, want, wantWrong, err, got, wrong, again)
		}
	}
}

// R4: nothing is kept: an answer stays as it was when what was given changes, and a later call answers by its own.
func TestShardsAreNotKept(t *testing.T) {
	f := gf.New()
	want, hurt, has, bad := hurtStripe(4, 5, 6, 1, 2, 1)
	got, wrong, err := errdec.Shards(f, 4, 5, has, hurt)
	for _, shard := range hurt {
		spoil(shard, 0x33)
	}
	spoil(has, false)
	if err != api.OK || !equal(got, want) || !slices.Equal(wrong, bad) {
		t.Fatalf("the answer has changed with what was given: %v, %v, %d", got, wrong, err)
	}
	refusedShards(t, f, 4, 5, has, hurt, api.ErrShard)
	sameShards(t, f, 4, 5, all(9), want, want, nil)
}

// R5: one shard may stand for several, and one list for has of other calls.
func TestSharedArguments(t *testing.T) {
	f := gf.New()
	shard := []byte{5, 6, 7}
	sameShards(t, f, 1, 1, all(2), [][]byte{shard, shard}, [][]byte{{5, 6, 7}, {5, 6, 7}}, nil)
	got, _, _ := errdec.Shards(f, 1, 1, all(2), [][]byte{shard, shard})
	got[0][0] = 99
	if got[1][0] != 5 || shard[0] != 5 {
		t.Fatalf("shards of the answer share memory: %v, %v", got, shard)
	}
}
