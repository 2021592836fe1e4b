package record_test

import (
	"bytes"
	"encoding/binary"
	"slices"
	"strings"
	"testing"

	"aumbry/api"
	"aumbry/record"
)

// The most bytes that may be: 64 objects with keys of 64 bytes, and 256 stripes.
const mostBytes = 2 + maxObjects*(4+8+maxKey) + 2*maxStripes

// putOf is the record RPut of an object.
func putOf(o api.Object) api.Record {
	return api.Record{Kind: put, Key: o.Key, Length: o.Length, Stripes: o.Stripes}
}

// mayAll tells by P16.3's words whether objects may be snapped.
func mayAll(l []api.Object) bool {
	may, stripes := len(l) <= maxObjects, 0
	for i, o := range l {
		may = may && mayBe(putOf(o)) && o.Epoch >= 0 && o.Epoch <= maxNumber
		may = may && (i == 0 || strings.Compare(l[i-1].Key, o.Key) < 0)
		stripes += len(o.Stripes)
	}
	return may && stripes <= maxStripes
}

// bytesOfAll are P16.3's bytes of objects, with any count ahead of them, such as may not be too.
func bytesOfAll(count int, l []api.Object) []byte {
	b := binary.BigEndian.AppendUint16(nil, uint16(count))
	for _, o := range l {
		b = binary.BigEndian.AppendUint32(b, uint32(o.Epoch))
		b = append(b, bytesOf(putOf(o))...)
	}
	return b
}

// halves are two parts of bytes, cut behind the first n.
func halves(b []byte, n int) [][]byte {
	return [][]byte{slices.Clone(b[:n]), slices.Clone(b[n:])}
}

// cutOf are two parts of bytes, cut as P16.3 says.
func cutOf(b []byte) [][]byte {
	return halves(b, min(len(b), maxData))
}

// sameParts tells whether parts are as many, and the same.
func sameParts(a, b [][]byte) bool {
	return slices.EqualFunc(a, b, bytes.Equal)
}

// sameObjects tells whether objects are the same, in the same order.
func sameObjects(a, b []api.Object) bool {
	return slices.EqualFunc(a, b, func(x, y api.Object) bool {
		return x.Epoch == y.Epoch && sameRecord(putOf(x), putOf(y))
	})
}

// lengths tell parts.
func lengths(parts [][]byte) []int {
	var l []int
	for _, part := range parts {
		l = append(l, len(part))
	}
	return l
}

// asSnapped asks for what P16.3 says of objects, and what Snap answers is answered.
func asSnapped(t *testing.T, l []api.Object) [][]byte {
	t.Helper()
	parts, err := record.Snap(l)
	if !mayAll(l) {
		if err != api.ErrArg || len(parts) != 0 {
			t.Fatalf("Snap(%d objects) = parts of %v bytes, %d, want ErrArg", len(l), lengths(parts), err)
		}
		return nil
	}
	if want := cutOf(bytesOfAll(len(l), l)); err != api.OK || !sameParts(parts, want) {
		t.Fatalf("Snap(%d objects) = parts of %v bytes, %d, want such of %v: % x", len(l), lengths(parts), err, lengths(want), parts)
	}
	return parts
}

// snapped asks besides that objects may be snapped, and are themselves again.
func snapped(t *testing.T, l []api.Object) [][]byte {
	t.Helper()
	if !mayAll(l) {
		t.Fatalf("%d objects may not be", len(l))
	}
	parts := asSnapped(t, l)
	unsnapped(t, parts, l)
	return parts
}

// notSnapped asks for ErrArg.
func notSnapped(t *testing.T, l []api.Object) {
	t.Helper()
	if mayAll(l) {
		t.Fatalf("%d objects may be", len(l))
	}
	asSnapped(t, l)
}

// keyed are n objects with keys of so many bytes, rising, and with numbers of their own.
func keyed(n, length int) []api.Object {
	l := make([]api.Object, n)
	for i := range l {
		key := string([]byte{'a' + byte(i/16), 'a' + byte(i%16)}) + strings.Repeat("k", length-2)
		l[i] = api.Object{Key: key, Length: 1000003 * i, Epoch: maxNumber - 999983*i}
	}
	return l
}

// sized are 64 objects of so many bytes and stripes together.
func sized(t *testing.T, total, stripes int) []api.Object {
	t.Helper()
	left := total - 2 - 2*stripes - 12*maxObjects
	l := keyed(maxObjects, left/maxObjects)
	for i := range l {
		if i < left%maxObjects {
			l[i].Key += "\xFF"
		}
	}
	for i := range stripes {
		at := i * 7 % maxObjects
		l[at].Stripes = append(l[at].Stripes, 255-i)
	}
	if got := len(bytesOfAll(maxObjects, l)); got != total {
		t.Fatalf("%d bytes, want %d", got, total)
	}
	return l
}

// someLists may be snapped: no objects, one, many, with all kinds of numbers, up to the most bytes.
func someLists(t *testing.T) [][]api.Object {
	lists := [][]api.Object{nil, {}, {{Key: "a"}}, {{Key: "a", Stripes: run(0, maxStripes)}},
		{{Key: "a", Length: 3, Epoch: 9, Stripes: []int{1, 255}}, {Key: "b"}},
		{{Key: "a"}, {Key: "a\x00"}, {Key: "aa"}, {Key: "b", Stripes: []int{0}}, {Key: "\xFF", Stripes: []int{0}}},
		keyed(2, 64), keyed(63, 9), keyed(64, 2)}
	for _, r := range someRecords() {
		if r.Kind == put {
			lists = append(lists, []api.Object{{Key: r.Key, Length: r.Length, Epoch: len(lists), Stripes: r.Stripes}})
		}
	}
	for _, n := range numbersInReach {
		lists = append(lists, []api.Object{{Key: "a", Epoch: n, Length: maxNumber - n}, {Key: "b", Epoch: maxNumber - n}})
	}
	for _, total := range []int{1500, maxData - 1, maxData, maxData + 1, mostBytes - 1, mostBytes} {
		lists = append(lists, sized(t, total, maxStripes))
	}
	return lists
}

// P16.3: no objects, and one, written out whole.
func TestKnownParts(t *testing.T) {
	for _, c := range []struct {
		l    []api.Object
		want []byte
	}{
		{nil, []byte{0, 0}},
		{[]api.Object{{Key: "a"}}, []byte{0, 1, 0, 0, 0, 0, 1, 1, 97, 0, 0, 0, 0, 0, 0}},
		{[]api.Object{{Key: "b", Length: 5, Epoch: 0x01020304, Stripes: []int{3}}}, []byte{0, 1, 1, 2, 3, 4, 1, 1, 98, 0, 0, 0, 5, 0, 1, 0, 3}},
		{[]api.Object{{Key: "a", Epoch: maxNumber}, {Key: "b", Length: maxNumber, Stripes: []int{255, 0}}},
			[]byte{0, 2, 127, 255, 255, 255, 1, 1, 97, 0, 0, 0, 0, 0, 0, 0, 0, 0, 0, 1, 1, 98, 127, 255, 255, 255, 0, 2, 0, 255, 0, 0}},
	} {
		parts, err := record.Snap(c.l)
		if err != api.OK || len(parts) != 2 || !bytes.Equal(parts[0], c.want) || len(parts[1]) != 0 {
			t.Errorf("Snap(%v) = %v, %d, want %v and an empty part", c.l, parts, err, c.want)
		}
		unsnapped(t, [][]byte{c.want, nil}, c.l)
	}
}

// P16.3, P16.4: all kinds of lists.
func TestSnap(t *testing.T) {
	for _, l := range someLists(t) {
		snapped(t, l)
	}
}

// P16.3: 64 objects may be, and one more may not.
func TestHowManyObjects(t *testing.T) {
	for n := range maxObjects + 1 {
		parts := snapped(t, keyed(n, 2))
		if !bytes.Equal(parts[0][:2], []byte{0, byte(n)}) {
			t.Errorf("%d objects: %v", n, parts[0][:2])
		}
	}
	for _, n := range []int{maxObjects + 1, maxObjects + 2, 2 * maxObjects, 255} {
		notSnapped(t, keyed(n, 2))
	}
	many := make([]api.Object, 65536+1)
	for i := range many {
		many[i].Key = string(binary.BigEndian.AppendUint32(nil, uint32(i)))
	}
	for _, n := range []int{256, 257, 65535, 65536, 65537} {
		notSnapped(t, many[:n])
	}
	snapped(t, many[:maxObjects])
}

// P16.3: an object may be, or not, as its record RPut, wherever it stands.
func TestObjectsThatMayNotBe(t *testing.T) {
	for _, r := range badRecords() {
		if r.Kind != put {
			continue
		}
		bad := api.Object{Key: r.Key, Length: r.Length, Epoch: 1, Stripes: r.Stripes}
		notSnapped(t, []api.Object{bad})
		notSnapped(t, []api.Object{bad, {Key: "zz"}})
		notSnapped(t, []api.Object{{Key: "A"}, bad})
		notSnapped(t, []api.Object{{Key: "A"}, bad, {Key: "zz"}})
	}
	for at := range maxObjects {
		l := keyed(maxObjects, 5)
		l[at].Length = -1
		notSnapped(t, l)
		l[at].Length, l[at].Stripes = 0, []int{256}
		notSnapped(t, l)
		l[at].Stripes = []int{255}
		snapped(t, l)
	}
}

// P16.3: Epoch is 0 to MaxNumber, of each object.
func TestEpochs(t *testing.T) {
	for _, c := range []struct {
		epoch int
		want  api.Errno
	}{{-1, api.ErrArg}, {0, api.OK}, {1, api.OK}, {maxNumber, api.OK}, {maxNumber + 1, api.ErrArg}} {
		if _, err := record.Snap([]api.Object{{Key: "a", Epoch: c.epoch}}); err != c.want {
			t.Errorf("the epoch %d: %d, want %d", c.epoch, err, c.want)
		}
	}
	for _, n := range numbersInReach {
		snapped(t, []api.Object{{Key: "a", Epoch: n}})
		snapped(t, []api.Object{{Key: "a", Epoch: 7}, {Key: "b", Epoch: n}, {Key: "c", Epoch: n}})
	}
	for _, n := range numbersOutOfReach {
		notSnapped(t, []api.Object{{Key: "a", Epoch: n}})
		notSnapped(t, []api.Object{{Key: "a", Epoch: n}, {Key: "b"}})
		notSnapped(t, []api.Object{{Key: "a"}, {Key: "b", Epoch: n}})
	}
	for bit := range 31 {
		want := make([]byte, 4)
		want[3-bit/8] = 1 << (bit % 8)
		if parts := snapped(t, []api.Object{{Key: "a", Epoch: 1 << bit}}); !bytes.Equal(parts[0][2:6], want) {
			t.Errorf("the epoch 1<<%d: %v", bit, parts[0])
		}
	}
}

// P16.3: Keys rise byte by byte; none is the same, or less, wherever it stands.
func TestKeysRise(t *testing.T) {
	keys := []string{"\x00", "\x00\x00", "A", "a", "a\x00", "aa", "ab", "b", "é", "\xFF", "\xFF\x00", "\xFF\xFF", strings.Repeat("\xFF", maxKey)}
	for i, first := range keys {
		for j, second := range keys {
			l := []api.Object{{Key: first}, {Key: second}}
			if i < j {
				snapped(t, l)
			} else {
				notSnapped(t, l)
			}
		}
	}
	for at := 1; at < maxObjects; at++ {
		l := keyed(maxObjects, 5)
		l[at-1], l[at] = l[at], l[at-1]
		notSnapped(t, l)
		l[at-1] = l[at]
		notSnapped(t, l)
	}
	l := keyed(maxObjects, 5)
	slices.Reverse(l)
	notSnapped(t, l)
	// Not the keys alone: what else is less or the same does not tell.
	snapped(t, []api.Object{{Key: "a", Epoch: 9, Length: 9, Stripes: []int{9}}, {Key: "b", Epoch: 9, Length: 1, Stripes: []int{9}}})
}

// P16.3: all together have at most MaxStripes stripes, however they are spread; one may be two objects' here.
func TestStripesTogether(t *testing.T) {
	for _, first := range []int{0, 1, 100, 128, 255, 256} {
		l := []api.Object{{Key: "a", Stripes: run(0, first)}, {Key: "b"}, {Key: "c", Stripes: run(first, maxStripes-first)}}
		snapped(t, l)
		l[1].Stripes = []int{0}
		notSnapped(t, l)
		l[1].Stripes = run(0, maxStripes)
		notSnapped(t, l)
	}
	l := keyed(maxObjects, 5)
	for i := range l {
		l[i].Stripes = []int{0, 0, 0, 0}
	}
	snapped(t, l)
	for i := range l {
		l[i].Stripes = []int{0, 0, 0, 0, 0}
		notSnapped(t, l)
		l[i].Stripes = l[i].Stripes[:4]
	}
	for i := range l {
		l[i].Stripes = run(0, maxStripes)
	}
	notSnapped(t, l)
	snapped(t, l[:1])
}

// P16.3: two parts: the first of 4096 bytes, if there are as many, and the second of the rest.
func TestHowPartsAreCut(t *testing.T) {
	for _, c := range []struct {
		total, first, second int
	}{
		{maxData - 1, maxData - 1, 0}, {maxData, maxData, 0}, {maxData + 1, maxData, 1}, {maxData + 2, maxData, 2},
		{mostBytes - 1, maxData, mostBytes - maxData - 1}, {mostBytes, maxData, mostBytes - maxData},
	} {
		parts := snapped(t, sized(t, c.total, maxStripes))
		if len(parts) != 2 || len(parts[0]) != c.first || len(parts[1]) != c.second {
			t.Errorf("%d bytes: parts of %v", c.total, lengths(parts))
		}
	}
	if mostBytes != 5378 {
		t.Errorf("%d bytes at most", mostBytes)
	}
}

// P16.3, P16.4: as many bytes as may be, from few to the most: the cut falls into all kinds of numbers and keys.
func TestEveryCut(t *testing.T) {
	for total := 1500; total <= mostBytes; total++ {
		snapped(t, sized(t, total, maxStripes))
	}
	for total := maxData - 100; total <= maxData+200; total++ {
		for _, stripes := range []int{0, 1, 17, 100} {
			snapped(t, sized(t, total, stripes))
		}
	}
}

// P16.3: what may not be for several reasons is ErrArg too.
func TestObjectsForSeveralReasons(t *testing.T) {
	bad := []api.Object{{Key: "b", Epoch: -1}, {Key: "a", Length: -1, Stripes: []int{-1}}, {Key: ""}, {Key: "a", Stripes: run(0, maxStripes+1)}}
	for n := 1; n <= len(bad); n++ {
		notSnapped(t, bad[:n])
	}
	for len(bad) <= 2*maxObjects {
		bad = append(bad, bad...)
		notSnapped(t, bad)
	}
}
