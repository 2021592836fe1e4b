package record_test

import (
	"bytes"
	"encoding/binary"
	"fmt"
	"math"
	"slices"
	"strings"
	"testing"

	"aumbry/api"
	"aumbry/record"
)

// The limits, written out: what api says of them is asked for too.
const (
	put         = 1
	del         = 2
	maxKey      = 64
	maxNumber   = 2147483647
	maxStripes  = 256
	maxObjects  = 64
	maxData     = 4096
	areaSectors = 2
)

// numbersInReach may be a Length or an Epoch: both ends, such as have one byte, and such as have four of their own.
var numbersInReach = []int{0, 1, 2, 127, 128, 255, 256, 300, 65535, 65536, 1<<24 - 1, 1 << 24, 0x01020304, 0x7A6B5C4D, 1 << 30, maxNumber - 1, maxNumber}

// numbersOutOfReach may not, those among them whose lowest four bytes are a number that may.
var numbersOutOfReach = []int{-1, -2, -256, -maxNumber, -maxNumber - 1, -(1 << 32), 1 - 1<<32, math.MinInt, math.MinInt + 1,
	maxNumber + 1, maxNumber + 2, 1<<32 - 1, 1 << 32, 1<<32 + 1, 1<<33 + maxNumber, 1 << 62, math.MaxInt - 1, math.MaxInt}

// stripesInReach may be a stripe, stripesOutOfReach may not: those among them whose lowest bytes are one that may.
var (
	stripesInReach    = []int{0, 1, 2, 127, 128, 254, 255}
	stripesOutOfReach = []int{-1, -2, -255, -256, -65535, math.MinInt, 256, 257, 258, 511, 512, 65535, 65536, 65537, 1 << 32, 1<<32 + 1, math.MaxInt}
)

// kindsOutOfReach are no kinds, those among them whose lowest byte is one.
var kindsOutOfReach = []int{0, 3, 4, 255, 256, 257, 258, -1, -2, -254, -255, 1 << 32, 1<<32 + 1, 1<<32 + 2, math.MinInt, math.MinInt + 1, math.MaxInt}

// someKeys may be keys: both ends of their lengths, and all kinds of bytes.
var someKeys = []string{"a", "z", "ab", "\x00", "\xFF", "\x00\x00", "\xC3\x28\xFF", "a key of more words", strings.Repeat("é", maxKey/2),
	strings.Repeat("k", maxKey-1), strings.Repeat("k", maxKey), strings.Repeat("\x00", maxKey), strings.Repeat("\xFF", maxKey)}

// keysOutOfReach may not; 33 runes of the third are 66 bytes, and the lowest byte of the last three's lengths would be 0, 1 and 64.
var keysOutOfReach = []string{"", strings.Repeat("k", maxKey+1), strings.Repeat("é", maxKey/2+1), strings.Repeat("k", 255),
	strings.Repeat("k", 256), strings.Repeat("k", 257), strings.Repeat("k", 256+maxKey)}

// run are n stripes, from one on, over and over.
func run(from, n int) []int {
	l := make([]int, n)
	for i := range l {
		l[i] = (from + i) % maxStripes
	}
	return l
}

// someStripes may be a record's: none, both ends of how many, in any order, and the same one more than once.
func someStripes() [][]int {
	return [][]int{nil, {}, {0}, {3}, {255}, {1, 255}, {255, 1}, {7, 7, 7}, {5, 4, 3, 2, 1, 0}, run(0, 17), run(200, 100),
		run(0, maxStripes-1), run(0, maxStripes), slices.Repeat([]int{255}, maxStripes), slices.Repeat([]int{0}, maxStripes)}
}

// stripesNone may not be a record's.
func stripesNone() [][]int {
	lists := [][]int{run(0, maxStripes+1), run(9, 2*maxStripes), run(0, 65536), run(0, 65537), slices.Repeat([]int{0}, maxStripes+1)}
	for _, stripe := range stripesOutOfReach {
		lists = append(lists, []int{stripe}, []int{stripe, 0, 1}, []int{0, stripe, 1}, []int{0, 1, stripe})
		long := run(0, maxStripes)
		long[maxStripes-1] = stripe
		lists = append(lists, long)
	}
	return lists
}

// wordsOf are P16.2's bytes of any numbers, those that may not stand there too, as far as they have bytes.
func wordsOf(kind byte, key string, length uint32, stripes []int) []byte {
	b := append([]byte{kind, byte(len(key))}, key...)
	b = binary.BigEndian.AppendUint32(b, length)
	b = binary.BigEndian.AppendUint16(b, uint16(len(stripes)))
	for _, stripe := range stripes {
		b = binary.BigEndian.AppendUint16(b, uint16(stripe))
	}
	return b
}

// bytesOf are P16.2's bytes of a record.
func bytesOf(r api.Record) []byte {
	return wordsOf(byte(r.Kind), r.Key, uint32(r.Length), r.Stripes)
}

// mayBe tells by P16.1's words whether a record may be.
func mayBe(r api.Record) bool {
	may := r.Kind == put || r.Kind == del && r.Length == 0 && len(r.Stripes) == 0
	may = may && len(r.Key) > 0 && len(r.Key) <= maxKey
	may = may && r.Length >= 0 && r.Length <= maxNumber && len(r.Stripes) <= maxStripes
	return may && !slices.ContainsFunc(r.Stripes, func(stripe int) bool { return stripe < 0 || stripe > maxStripes-1 })
}

// sameRecord tells whether two records are one; no stripes may be nil or not.
func sameRecord(a, b api.Record) bool {
	return a.Kind == b.Kind && a.Key == b.Key && a.Length == b.Length && slices.Equal(a.Stripes, b.Stripes)
}

// checked asks for what P16.1 says of a record.
func checked(t *testing.T, r api.Record) {
	t.Helper()
	want := api.OK
	if !mayBe(r) {
		want = api.ErrArg
	}
	if err := record.Check(r); err != want {
		t.Fatalf("Check(%s) = %d, want %d", short(r), err, want)
	}
}

// short tells a record, as far as it is of use.
func short(r api.Record) string {
	return fmt.Sprintf("kind %d, a key of %d bytes, length %d, %d stripes: %d", r.Kind, len(r.Key), r.Length, len(r.Stripes), r.Stripes[:min(len(r.Stripes), 4)])
}

// someRecords may be: every kind, with all kinds of keys, lengths and stripes.
func someRecords() []api.Record {
	var l []api.Record
	for i, key := range someKeys {
		l = append(l, api.Record{Kind: del, Key: key}, api.Record{Kind: del, Key: key, Stripes: []int{}})
		for j, stripes := range someStripes() {
			l = append(l, api.Record{Kind: put, Key: key, Length: numbersInReach[(i+j)%len(numbersInReach)], Stripes: stripes})
		}
	}
	for _, n := range numbersInReach {
		l = append(l, api.Record{Kind: put, Key: "key", Length: n}, api.Record{Kind: put, Key: "key", Length: n, Stripes: []int{9}})
	}
	return l
}

// badRecords may not be, for one reason each.
func badRecords() []api.Record {
	l := []api.Record{{}, {Kind: put}, {Kind: del}}
	for _, kind := range kindsOutOfReach {
		l = append(l, api.Record{Kind: kind, Key: "a"}, api.Record{Kind: kind, Key: "a", Length: 5, Stripes: []int{3}})
	}
	for _, key := range keysOutOfReach {
		l = append(l, api.Record{Kind: put, Key: key, Length: 5, Stripes: []int{3}}, api.Record{Kind: del, Key: key})
	}
	for _, n := range numbersOutOfReach {
		l = append(l, api.Record{Kind: put, Key: "a", Length: n, Stripes: []int{3}}, api.Record{Kind: del, Key: "a", Length: n})
	}
	for _, stripes := range stripesNone() {
		l = append(l, api.Record{Kind: put, Key: "a", Length: 5, Stripes: stripes}, api.Record{Kind: del, Key: "a", Stripes: stripes})
	}
	for _, n := range numbersInReach[1:] {
		l = append(l, api.Record{Kind: del, Key: "a", Length: n})
	}
	for _, stripes := range someStripes() {
		if len(stripes) > 0 {
			l = append(l, api.Record{Kind: del, Key: "a", Stripes: stripes}, api.Record{Kind: del, Key: "a", Length: 1, Stripes: stripes})
		}
	}
	return l
}

// The sections Types and Errors, and the limits that the promises name.
func TestNumbers(t *testing.T) {
	if api.OK != 0 || api.ErrArg != 1 || api.ErrRecord != 160 {
		t.Errorf("errors are %d, %d and %d", api.OK, api.ErrArg, api.ErrRecord)
	}
	if api.RPut != put || api.RDelete != del {
		t.Errorf("kinds are %d and %d", api.RPut, api.RDelete)
	}
	if api.MaxKey != maxKey || api.MaxNumber != maxNumber || api.MaxStripes != maxStripes {
		t.Errorf("limits are %d, %d and %d", api.MaxKey, api.MaxNumber, api.MaxStripes)
	}
	if api.MaxObjects != maxObjects || api.MaxData != maxData || api.AreaSectors != areaSectors {
		t.Errorf("limits are %d, %d and %d", api.MaxObjects, api.MaxData, api.AreaSectors)
	}
	if err := record.Check(api.Record{}); err != 1 {
		t.Errorf("Check(nothing) = %d", err)
	}
	if _, err := record.Encode(api.Record{}); err != 1 {
		t.Errorf("Encode(nothing) = %d", err)
	}
	if _, err := record.Decode(nil); err != 160 {
		t.Errorf("Decode(none) = %d", err)
	}
	if _, err := record.Snap([]api.Object{{}}); err != 1 {
		t.Errorf("Snap(an object without a key) = %d", err)
	}
	if _, err := record.Unsnap(nil); err != 160 {
		t.Errorf("Unsnap(none) = %d", err)
	}
}

// The chapter's examples.
func TestExamples(t *testing.T) {
	b, err := record.Encode(api.Record{Kind: api.RPut, Key: "a", Length: 5, Stripes: []int{3}})
	if err != api.OK || !bytes.Equal(b, []byte{1, 1, 97, 0, 0, 0, 5, 0, 1, 0, 3}) {
		t.Errorf("put: %v, %d", b, err)
	}
	b, err = record.Encode(api.Record{Kind: api.RDelete, Key: "a"})
	if err != api.OK || !bytes.Equal(b, []byte{2, 1, 97, 0, 0, 0, 0, 0, 0}) {
		t.Errorf("delete: %v, %d", b, err)
	}
	notDecoded(t, []byte{2, 1, 97})
	notDecoded(t, []byte{2, 1, 97, 0})
	notDecoded(t, append(b, 0))
	parts, err := record.Snap(nil)
	if err != api.OK || len(parts) != 2 || !bytes.Equal(parts[0], []byte{0, 0}) || len(parts[1]) != 0 {
		t.Errorf("Snap(none) = %v, %d", parts, err)
	}
}

// P16.1: records that may be, and such as may not for one reason, the words' own answers among them.
func TestCheck(t *testing.T) {
	for _, r := range someRecords() {
		if err := record.Check(r); err != api.OK {
			t.Fatalf("Check(%s) = %d", short(r), err)
		}
		checked(t, r)
	}
	for _, r := range badRecords() {
		if err := record.Check(r); err != api.ErrArg {
			t.Fatalf("Check(%s) = %d", short(r), err)
		}
		checked(t, r)
	}
}

// P16.1: Kind is one of the two, whatever else there is.
func TestCheckKind(t *testing.T) {
	for _, c := range []struct {
		kind int
		want api.Errno
	}{{-1, api.ErrArg}, {0, api.ErrArg}, {1, api.OK}, {2, api.OK}, {3, api.ErrArg}, {257, api.ErrArg}, {258, api.ErrArg}} {
		if err := record.Check(api.Record{Kind: c.kind, Key: "a"}); err != c.want {
			t.Errorf("kind %d: %d, want %d", c.kind, err, c.want)
		}
	}
	for kind := -300; kind < 600; kind++ {
		checked(t, api.Record{Kind: kind, Key: "a"})
		checked(t, api.Record{Kind: kind, Key: "a", Length: 5, Stripes: []int{3}})
		checked(t, api.Record{Kind: kind, Key: "", Length: -1, Stripes: []int{-1}})
	}
}

// P16.1: Key has 1 to 64 bytes, and not runes, of both kinds; any bytes.
func TestCheckKey(t *testing.T) {
	for length := range 600 {
		for _, kind := range []int{put, del} {
			r := api.Record{Kind: kind, Key: strings.Repeat("k", length)}
			if err := record.Check(r); (err == api.OK) != (length >= 1 && length <= maxKey) {
				t.Errorf("kind %d, a key of %d bytes: %d", kind, length, err)
			}
			checked(t, r)
		}
	}
	for first := range 256 {
		for _, second := range []byte{0, 9, 'a', 0x80, 0xBF, 0xFF} {
			checked(t, api.Record{Kind: put, Key: string([]byte{byte(first), second})})
			checked(t, api.Record{Kind: del, Key: string([]byte{byte(first)})})
		}
	}
	checked(t, api.Record{Kind: put, Key: strings.Repeat("k", 1<<20)})
}

// P16.1: Length is 0 to MaxNumber, and of a delete 0.
func TestCheckLength(t *testing.T) {
	for _, c := range []struct {
		kind, length int
		want         api.Errno
	}{
		{put, -1, api.ErrArg}, {put, 0, api.OK}, {put, 1, api.OK}, {put, maxNumber, api.OK}, {put, maxNumber + 1, api.ErrArg},
		{del, -1, api.ErrArg}, {del, 0, api.OK}, {del, 1, api.ErrArg}, {del, maxNumber, api.ErrArg}, {del, maxNumber + 1, api.ErrArg},
	} {
		if err := record.Check(api.Record{Kind: c.kind, Key: "a", Length: c.length}); err != c.want {
			t.Errorf("kind %d, length %d: %d, want %d", c.kind, c.length, err, c.want)
		}
	}
}

// P16.1: none to MaxStripes stripes, and of a delete none.
func TestCheckHowManyStripes(t *testing.T) {
	for n := range 3 * maxStripes {
		for _, kind := range []int{put, del} {
			err := record.Check(api.Record{Kind: kind, Key: "a", Stripes: run(0, n)})
			if may := n == 0 || kind == put && n <= maxStripes; (err == api.OK) != may || !may && err != api.ErrArg {
				t.Errorf("kind %d, %d stripes: %d", kind, n, err)
			}
		}
	}
}

// P16.1: each stripe is 0 to MaxStripes - 1, wherever it stands; nothing is asked of their order.
func TestCheckEachStripe(t *testing.T) {
	for at := range maxStripes {
		stripes := run(0, maxStripes)
		for _, stripe := range slices.Concat(stripesInReach, stripesOutOfReach) {
			stripes[at] = stripe
			for _, l := range [][]int{stripes, stripes[:at+1], stripes[at:]} {
				err := record.Check(api.Record{Kind: put, Key: "a", Stripes: l})
				if may := stripe >= 0 && stripe <= 255; (err == api.OK) != may || !may && err != api.ErrArg {
					t.Fatalf("the stripe %d at %d of %d: %d", stripe, at, len(l), err)
				}
			}
		}
	}
	for stripe := -300; stripe < 700; stripe++ {
		checked(t, api.Record{Kind: put, Key: "a", Stripes: []int{stripe}})
		checked(t, api.Record{Kind: del, Key: "a", Stripes: []int{stripe}})
	}
}

// P16.1, P16.2: every edge with every other: what may not be for several reasons is ErrArg too, of both calls.
func TestEdgesTogether(t *testing.T) {
	kinds := []int{-1, 0, 1, 2, 3}
	keys := []string{"", "a", strings.Repeat("k", maxKey), strings.Repeat("k", maxKey+1)}
	lengths := []int{-1, 0, 1, maxNumber, maxNumber + 1}
	stripes := [][]int{nil, {}, {-1}, {0}, {maxStripes - 1}, {maxStripes}, run(0, maxStripes), run(0, maxStripes+1), {0, -1}, {256, 0}}
	for _, kind := range kinds {
		for _, key := range keys {
			for _, length := range lengths {
				for _, l := range stripes {
					r := api.Record{Kind: kind, Key: key, Length: length, Stripes: l}
					checked(t, r)
					asEncoded(t, r)
				}
			}
		}
	}
}
