package record_test

import (
	"bytes"
	"encoding/binary"
	"math/rand"
	"slices"
	"strings"
	"testing"

	"aumbry/api"
	"aumbry/record"
)

// decoded asks for a record, and that its bytes are just these.
func decoded(t *testing.T, b []byte, want api.Record) {
	t.Helper()
	got, err := record.Decode(b)
	if err != api.OK || !sameRecord(got, want) {
		t.Fatalf("Decode(% x) = %s, %d, want %s", b[:min(len(b), 90)], short(got), err, short(want))
	}
	if again, err := record.Encode(got); err != api.OK || !bytes.Equal(again, b) {
		t.Fatalf("Decode(% x) = %s, whose bytes are % x, %d", b[:min(len(b), 90)], short(got), again, err)
	}
}

// notDecoded asks for ErrRecord, and nothing beside it.
func notDecoded(t *testing.T, b []byte) {
	t.Helper()
	got, err := record.Decode(b)
	if err != api.ErrRecord || !sameRecord(got, api.Record{}) {
		t.Fatalf("Decode(%d bytes, % x) = %s, %d, want ErrRecord", len(b), b[:min(len(b), 90)], short(got), err)
	}
}

// split tells by the words which record bytes could be: each of its places follows from the two counts.
func split(b []byte) (api.Record, bool) {
	if len(b) < 2 || len(b) < 8+int(b[1]) {
		return api.Record{}, false
	}
	key, rest := b[2:2+int(b[1])], b[2+int(b[1]):]
	r := api.Record{Kind: int(b[0]), Key: string(key), Length: int(binary.BigEndian.Uint32(rest))}
	if len(rest) != 6+2*int(binary.BigEndian.Uint16(rest[4:])) {
		return api.Record{}, false
	}
	for at := 6; at < len(rest); at += 2 {
		r.Stripes = append(r.Stripes, int(binary.BigEndian.Uint16(rest[at:])))
	}
	return r, mayBe(r)
}

// asWordsSay asks for what P16.2 says of any bytes, and tells whether they are a record.
func asWordsSay(t *testing.T, b []byte) bool {
	t.Helper()
	want, is := split(b)
	if is {
		decoded(t, b, want)
	} else {
		notDecoded(t, b)
	}
	return is
}

// P16.2, P16.4: what is encoded is decoded, as itself.
func TestDecode(t *testing.T) {
	for _, r := range someRecords() {
		b := asEncoded(t, r)
		decoded(t, b, r)
		if !asWordsSay(t, b) {
			t.Fatalf("%s: the test's own words say otherwise", short(r))
		}
	}
}

// P16.2: no beginning of a record's bytes is one, nor are they with more behind, or ahead of them.
func TestBeginningsAndMore(t *testing.T) {
	for _, r := range someRecords() {
		b := asEncoded(t, r)
		for length := range b {
			notDecoded(t, b[:length])
			notDecoded(t, slices.Clip(b[:length]))
		}
		for _, more := range [][]byte{{0}, {1}, {255}, {0, 0}, {0, 3}, {0, 0, 0, 0}, b} {
			notDecoded(t, slices.Concat(b, more))
		}
		asWordsSay(t, slices.Concat([]byte{0}, b))
		asWordsSay(t, slices.Concat([]byte{1}, b))
		asWordsSay(t, b[1:])
	}
	for more := range 256 {
		notDecoded(t, []byte{2, 1, 97, 0, 0, 0, 0, 0, 0, byte(more)})
		notDecoded(t, []byte{1, 1, 97, 0, 0, 0, 5, 0, 1, 0, 3, byte(more)})
	}
}

// P16.2: counts that say more or less than there is.
func TestCounts(t *testing.T) {
	for _, r := range someRecords() {
		b := asEncoded(t, r)
		was := slices.Clone(b)
		for size := range 256 {
			b[1] = byte(size)
			asWordsSay(t, b)
		}
		copy(b, was)
		at := 2 + len(r.Key) + 4
		for _, n := range []int{0, 1, 2, 16, 17, 18, 99, 100, 101, 254, 255, 256, 257, 258, 511, 512, 32767, 32768, 65534, 65535} {
			binary.BigEndian.PutUint16(b[at:], uint16(n))
			if n == len(r.Stripes) {
				decoded(t, b, r)
			} else {
				notDecoded(t, b)
			}
		}
	}
	notDecoded(t, []byte{1, 1, 97, 0, 0, 0, 5, 255, 255})
	notDecoded(t, []byte{1, 255, 97, 0, 0, 0, 5, 0, 0})
	notDecoded(t, []byte{1, 0, 0, 0, 0, 5, 0, 0})
}

// P16.2: bytes of a record that may not be, with all counts as they should be.
func TestBytesOfNoRecord(t *testing.T) {
	for kind := range 256 {
		if kind != put && kind != del {
			notDecoded(t, wordsOf(byte(kind), "a", 0, nil))
			notDecoded(t, wordsOf(byte(kind), "a", 5, []int{3}))
		}
	}
	for length := range 256 {
		key := strings.Repeat("k", length)
		for _, kind := range []byte{put, del} {
			if length >= 1 && length <= maxKey {
				decoded(t, wordsOf(kind, key, 0, nil), api.Record{Kind: int(kind), Key: key})
			} else {
				notDecoded(t, wordsOf(kind, key, 0, nil))
			}
		}
	}
	for _, length := range []uint32{1 << 31, 1<<31 + 1, 1<<31 + 5, 0xC0000000, 1<<32 - 2, 1<<32 - 1} {
		notDecoded(t, wordsOf(put, "a", length, nil))
		notDecoded(t, wordsOf(put, "a", length, []int{3}))
		notDecoded(t, wordsOf(del, "a", length, nil))
	}
	decoded(t, wordsOf(put, "a", maxNumber, nil), api.Record{Kind: put, Key: "a", Length: maxNumber})
}

// P16.2: bytes with stripes that may not be, or too many; a delete that has a Length, or Stripes.
func TestBytesOfNoStripes(t *testing.T) {
	for n := range 3 * maxStripes {
		b := wordsOf(put, "a", 5, run(0, n))
		if n <= maxStripes {
			decoded(t, b, api.Record{Kind: put, Key: "a", Length: 5, Stripes: run(0, n)})
		} else {
			notDecoded(t, b)
		}
		if n > 0 {
			notDecoded(t, wordsOf(del, "a", 0, run(0, n)))
		}
	}
	notDecoded(t, wordsOf(put, "a", 5, run(0, 65535)))
	for stripe := range 65536 {
		for _, l := range [][]int{{stripe}, {1, stripe}, {stripe, 1}} {
			if stripe < maxStripes {
				decoded(t, wordsOf(put, "a", 5, l), api.Record{Kind: put, Key: "a", Length: 5, Stripes: l})
			} else {
				notDecoded(t, wordsOf(put, "a", 5, l))
			}
		}
	}
	for _, length := range []uint32{1, 2, 255, 256, 65536, 1 << 24, maxNumber} {
		notDecoded(t, wordsOf(del, "a", length, nil))
		notDecoded(t, wordsOf(del, "a", length, []int{3}))
	}
}

// P16.2, P16.4: one byte of a record's changed, anywhere, to anything.
func TestOneByteChanged(t *testing.T) {
	for _, r := range someRecords() {
		if len(r.Stripes) > 20 {
			continue
		}
		b := asEncoded(t, r)
		for at, was := range b {
			for next := range 256 {
				b[at] = byte(next)
				asWordsSay(t, b)
			}
			b[at] = was
		}
		decoded(t, b, r)
	}
}

// P16.2, P16.4: all lists of up to nine of a few bytes.
func TestAllShortLists(t *testing.T) {
	some := []byte{0, 1, 2, 'a'}
	records := 0
	for length := range 10 {
		b := make([]byte, length)
		for n := range 1 << (2 * length) {
			for at := range b {
				b[at] = some[n>>(2*at)&3]
			}
			if asWordsSay(t, b) {
				records++
			}
		}
	}
	// Of nine bytes: a key of one byte of these; of a put the four of its length, whose highest is at most 'a'.
	if want := 4*256 + 4; records != want {
		t.Errorf("%d are records, want %d", records, want)
	}
}

// nearRecord makes bytes most often such as a record has, with all counts as they should be.
func nearRecord(random *rand.Rand, b []byte) {
	if len(b) < 2 || random.Intn(4) == 0 {
		return
	}
	b[0], b[1] = byte(1+random.Intn(2)), byte(random.Intn(len(b)))
	if len(b) < 8+int(b[1]) {
		return
	}
	length := b[2+int(b[1]):]
	stripes := length[6:]
	length[0] &= 0x7F
	length[4], length[5] = 0, byte(len(stripes)/2)
	for at := 0; at < len(stripes) && random.Intn(8) > 0; at += 2 {
		stripes[at] = 0
	}
}

// P16.2, P16.4: bytes of all kinds, records among them.
func TestAnyBytes(t *testing.T) {
	random := rand.New(rand.NewSource(16))
	records := 0
	for range 200000 {
		b := make([]byte, random.Intn(40))
		random.Read(b)
		nearRecord(random, b)
		if asWordsSay(t, b) {
			records++
		}
	}
	if records < 10000 {
		t.Errorf("%d were records: the test tells too little", records)
	}
}

// R1: many bytes are no record, and are told so.
func TestManyBytes(t *testing.T) {
	for _, first := range []byte{0, 1, 2, 255} {
		for _, size := range []byte{0, 1, 64, 65, 255} {
			b := bytes.Repeat([]byte{first}, 1<<20)
			b[1] = size
			notDecoded(t, b)
		}
	}
}
