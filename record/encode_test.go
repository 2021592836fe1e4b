package record_test

import (
	"bytes"
	"strings"
	"testing"

	"aumbry/api"
	"aumbry/record"
)

// asEncoded asks for what P16.2 says of a record, and what Encode answers is answered.
func asEncoded(t *testing.T, r api.Record) []byte {
	t.Helper()
	b, err := record.Encode(r)
	if !mayBe(r) {
		if err != api.ErrArg || len(b) != 0 {
			t.Fatalf("Encode(%s) = %d bytes, %d, want ErrArg", short(r), len(b), err)
		}
		return nil
	}
	if want := bytesOf(r); err != api.OK || !bytes.Equal(b, want) {
		t.Fatalf("Encode(%s) = % x, %d, want % x", short(r), b, err, want)
	}
	return b
}

// P16.2: each byte of all kinds of records; ErrArg of those that may not be, and nothing beside it.
func TestEncode(t *testing.T) {
	for _, r := range someRecords() {
		if b := asEncoded(t, r); len(b) != 8+len(r.Key)+2*len(r.Stripes) {
			t.Fatalf("Encode(%s): %d bytes", short(r), len(b))
		}
	}
	for _, r := range badRecords() {
		if b := asEncoded(t, r); b != nil {
			t.Fatalf("Encode(%s): % x", short(r), b)
		}
	}
}

// P16.2: records that are known, written out whole.
func TestKnownBytes(t *testing.T) {
	longest := strings.Repeat("k", maxKey)
	for _, c := range []struct {
		r    api.Record
		want []byte
	}{
		{api.Record{Kind: 1, Key: "a"}, []byte{1, 1, 97, 0, 0, 0, 0, 0, 0}},
		{api.Record{Kind: 2, Key: "ab"}, []byte{2, 2, 97, 98, 0, 0, 0, 0, 0, 0}},
		{api.Record{Kind: 2, Key: "\x00\xFF"}, []byte{2, 2, 0, 255, 0, 0, 0, 0, 0, 0}},
		{api.Record{Kind: 1, Key: "é"}, []byte{1, 2, 0xC3, 0xA9, 0, 0, 0, 0, 0, 0}},
		{api.Record{Kind: 1, Key: "a", Length: 0x01020304}, []byte{1, 1, 97, 1, 2, 3, 4, 0, 0}},
		{api.Record{Kind: 1, Key: "a", Length: maxNumber}, []byte{1, 1, 97, 127, 255, 255, 255, 0, 0}},
		{api.Record{Kind: 1, Key: "a", Length: 256, Stripes: []int{255, 0, 7, 7}}, []byte{1, 1, 97, 0, 0, 1, 0, 0, 4, 0, 255, 0, 0, 0, 7, 0, 7}},
		{api.Record{Kind: 2, Key: longest}, append(append([]byte{2, 64}, longest...), 0, 0, 0, 0, 0, 0)},
	} {
		if b, err := record.Encode(c.r); err != api.OK || !bytes.Equal(b, c.want) {
			t.Errorf("Encode(%s) = %v, %d, want %v", short(c.r), b, err, c.want)
		}
		decoded(t, c.want, c.r)
	}
}

// P16.2, Words: numbers stand highest byte first, Length in four bytes, how many stripes and each of them in two.
func TestHighestFirst(t *testing.T) {
	for bit := range 31 {
		want := []byte{1, 1, 'k', 0, 0, 0, 0, 0, 0}
		want[6-bit/8] = 1 << (bit % 8)
		if b := asEncoded(t, api.Record{Kind: put, Key: "k", Length: 1 << bit}); !bytes.Equal(b, want) {
			t.Errorf("the length 1<<%d: %v", bit, b)
		}
	}
	for n := range maxStripes + 1 {
		b := asEncoded(t, api.Record{Kind: put, Key: "k", Stripes: run(0, n)})
		if b[7] != byte(n/256) || b[8] != byte(n%256) {
			t.Errorf("%d stripes: %v", n, b[:9])
		}
	}
	for stripe := range maxStripes {
		b := asEncoded(t, api.Record{Kind: put, Key: "k", Stripes: []int{1, stripe}})
		if !bytes.Equal(b[7:], []byte{0, 2, 0, 1, 0, byte(stripe)}) {
			t.Errorf("the stripe %d: %v", stripe, b)
		}
	}
}

// P16.2: a key of every length that may be, and one more.
func TestEncodeKeys(t *testing.T) {
	for length := range maxKey + 2 {
		key := strings.Repeat("\x01", length)
		for _, kind := range []int{put, del} {
			if b := asEncoded(t, api.Record{Kind: kind, Key: key}); b != nil && (b[0] != byte(kind) || b[1] != byte(length)) {
				t.Errorf("a key of %d bytes: %v", length, b)
			}
		}
	}
}

// P16.4: no two records that are unlike have the same bytes.
func TestUnlikeBytes(t *testing.T) {
	seen := map[string]api.Record{}
	for _, r := range someRecords() {
		b := string(asEncoded(t, r))
		if other, is := seen[b]; is && !sameRecord(r, other) {
			t.Fatalf("%s and %s have the same bytes", short(r), short(other))
		}
		seen[b] = r
	}
}
