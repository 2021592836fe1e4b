package record_test

import (
	"bytes"
	"slices"
	"strings"
	"testing"

	"aumbry/api"
	"aumbry/record"
)

// roomy is a copy of a list with others on both sides; all of it is told by whole.
func roomy[T any](l []T, other T) (inner, whole []T) {
	whole = slices.Concat([]T{other, other}, l, []T{other, other, other})
	return whole[2 : 2+len(l)], whole
}

// spoil writes over all that a list holds, spare room too.
func spoil[T any](l []T, with T) {
	room := l[:cap(l)]
	for i := range room {
		room[i] = with
	}
}

// own is a record in memory of its own.
func own(r api.Record) api.Record {
	r.Key, r.Stripes = strings.Clone(r.Key), slices.Clone(r.Stripes)
	return r
}

// ownObjects are objects in memory of their own.
func ownObjects(l []api.Object) []api.Object {
	l = slices.Clone(l)
	for i := range l {
		l[i].Key, l[i].Stripes = strings.Clone(l[i].Key), slices.Clone(l[i].Stripes)
	}
	return l
}

// ownParts are parts in memory of their own.
func ownParts(parts [][]byte) [][]byte {
	parts = slices.Clone(parts)
	for i := range parts {
		parts[i] = bytes.Clone(parts[i])
	}
	return parts
}

// R3, R4: what is handed to Check and Encode is left as it was, by answers and by errors, and shares no memory with an answer; nor do two answers.
func TestEncodeMemory(t *testing.T) {
	for _, r := range append(someRecords(), badRecords()...) {
		stripes, whole := roomy(r.Stripes, -77)
		before := slices.Clone(whole)
		given := api.Record{Kind: r.Kind, Key: r.Key, Length: r.Length, Stripes: stripes}
		checked(t, given)
		b := asEncoded(t, given)
		want := slices.Clone(b)
		spoil(asEncoded(t, given), 0x11)
		if !bytes.Equal(b, want) {
			t.Fatalf("two answers of Encode(%s) share memory", short(r))
		}
		if !slices.Equal(whole, before) {
			t.Fatalf("what Encode(%s) was given has changed", short(r))
		}
		spoil(whole, 9)
		if !bytes.Equal(b, want) {
			t.Fatalf("the answer of Encode(%s) has changed with what was given", short(r))
		}
	}
}

// decodeCases tell all kinds of answers.
func decodeCases() [][]byte {
	lists := [][]byte{nil, {}, {1}, {2, 1, 97}, {1, 0, 0, 0, 0, 0, 0, 0}, {2, 1, 97, 0, 0, 0, 1, 0, 0}, {1, 1, 97, 128, 0, 0, 0, 0, 0}}
	for _, r := range someRecords() {
		b := bytesOf(r)
		lists = append(lists, b, b[:len(b)-1], append(slices.Clone(b), 0))
	}
	return lists
}

// R3, R4: likewise Decode.
func TestDecodeMemory(t *testing.T) {
	for _, list := range decodeCases() {
		b, whole := roomy(list, 0xA5)
		before := slices.Clone(whole)
		got, err := record.Decode(b)
		want := own(got)
		other, _ := record.Decode(b)
		spoil(other.Stripes, -5)
		if !sameRecord(got, want) {
			t.Fatalf("two answers of Decode(% x) share memory", b)
		}
		if !bytes.Equal(whole, before) {
			t.Fatalf("what Decode(% x) was given has changed", b)
		}
		again, errAgain := record.Decode(b)
		if errAgain != err || !sameRecord(again, want) {
			t.Fatalf("Decode(% x) answers otherwise the second time", b)
		}
		spoil(whole, 0x33)
		if !sameRecord(got, want) {
			t.Fatalf("the answer of Decode(% x) has changed with what was given", list)
		}
	}
}

// snapCases tell all kinds of answers.
func snapCases(t *testing.T) [][]api.Object {
	lists := append(someLists(t), keyed(maxObjects+1, 3), []api.Object{{}}, []api.Object{{Key: "b"}, {Key: "a", Stripes: []int{1}}})
	return append(lists, []api.Object{{Key: "a", Stripes: run(0, maxStripes)}, {Key: "b", Stripes: []int{1, 2}}}, []api.Object{{Key: "a", Epoch: -1, Stripes: []int{4}}})
}

// R3, R4: likewise Snap, of the list and of each object's stripes.
func TestSnapMemory(t *testing.T) {
	for _, list := range snapCases(t) {
		l, whole := roomy(ownObjects(list), api.Object{Key: "beside", Length: 5, Stripes: []int{6}})
		rooms, before := make([][]int, len(l)), make([][]int, len(l))
		for i := range l {
			l[i].Stripes, rooms[i] = roomy(l[i].Stripes, -77)
			before[i] = slices.Clone(rooms[i])
		}
		wholeBefore := ownObjects(whole)
		parts := asSnapped(t, l)
		want := ownParts(parts)
		other := asSnapped(t, l)
		for _, part := range other {
			spoil(part, 0x11)
		}
		spoil(other, nil)
		if !sameParts(parts, want) {
			t.Fatalf("two answers of Snap(%d objects) share memory", len(l))
		}
		if !sameObjects(whole, wholeBefore) || !slices.EqualFunc(rooms, before, slices.Equal) {
			t.Fatalf("what Snap(%d objects) was given has changed", len(l))
		}
		for _, room := range rooms {
			spoil(room, 9)
		}
		spoil(whole, api.Object{})
		if !sameParts(parts, want) {
			t.Fatalf("the answer of Snap(%d objects) has changed with what was given", len(list))
		}
	}
}

// R4: no part shares memory with the other: neither what it holds, nor what is appended to it.
func TestPartsShareNone(t *testing.T) {
	for _, l := range someLists(t) {
		for i := range areaSectors {
			parts := snapped(t, l)
			want := ownParts(parts)
			longer := append(parts[i], bytes.Repeat([]byte{0xEE}, 300)...)
			spoil(parts[i], 0xDD)
			spoil(longer, 0xCC)
			if !bytes.Equal(parts[1-i], want[1-i]) {
				t.Fatalf("%d objects: the part %d has changed with the other", len(l), 1-i)
			}
		}
	}
}

// unsnapCases tell all kinds of answers.
func unsnapCases(t *testing.T) [][][]byte {
	lists := [][][]byte{nil, {}, {nil}, {{0, 0}}, {{0}, {0}}, {nil, {0, 0}}, {{0, 0}, nil, nil}, {{0, 0, 1}, {}}, {{0, 0}, {1}}}
	for _, l := range someLists(t) {
		b := bytesOfAll(len(l), l)
		lists = append(lists, cutOf(b), halves(b, 1), cutOf(b[:len(b)-1]), cutOf(append(b, 0)), cutOf(bytesOfAll(len(l)+1, l)))
	}
	return lists
}

// R3, R4: likewise Unsnap, of the list and of each part.
func TestUnsnapMemory(t *testing.T) {
	for _, list := range unsnapCases(t) {
		parts, whole := roomy(ownParts(list), []byte{1, 2, 3})
		rooms := make([][]byte, len(parts))
		for i := range parts {
			parts[i], rooms[i] = roomy(parts[i], 0xA5)
		}
		before, wholeBefore := ownParts(rooms), ownParts(whole)
		got, err := record.Unsnap(parts)
		want := ownObjects(got)
		other, _ := record.Unsnap(parts)
		for _, o := range other {
			spoil(o.Stripes, -5)
		}
		spoil(other, api.Object{})
		if !sameObjects(got, want) {
			t.Fatalf("two answers of Unsnap(parts of %v bytes) share memory", lengths(list))
		}
		if !sameParts(whole, wholeBefore) || !sameParts(rooms, before) {
			t.Fatalf("what Unsnap(parts of %v bytes) was given has changed", lengths(list))
		}
		again, errAgain := record.Unsnap(parts)
		if errAgain != err || !sameObjects(again, want) {
			t.Fatalf("Unsnap(parts of %v bytes) answers otherwise the second time", lengths(list))
		}
		for _, room := range rooms {
			spoil(room, 0x33)
		}
		spoil(whole, nil)
		if !sameObjects(got, want) {
			t.Fatalf("the answer of Unsnap(parts of %v bytes) has changed with what was given", lengths(list))
		}
	}
}

// R4: no object's stripes share memory with another's.
func TestObjectsShareNone(t *testing.T) {
	for _, l := range someLists(t) {
		got, err := record.Unsnap(snapped(t, l))
		if err != api.OK {
			t.Fatalf("%d objects: %d", len(l), err)
		}
		want := ownObjects(got)
		for i := range got {
			longer := append(got[i].Stripes, 1, 2, 3, 4, 5)
			spoil(got[i].Stripes, -9)
			spoil(longer, -8)
			if !sameObjects(got[:i], want[:i]) || !sameObjects(got[i+1:], want[i+1:]) {
				t.Fatalf("%d objects: others have changed with the one at %d", len(l), i)
			}
			got[i].Stripes = slices.Clone(want[i].Stripes)
		}
	}
}

// R5: neither spare room nor what stands about a list tells; none is as an empty list.
func TestCapacityDoesNotTell(t *testing.T) {
	for _, list := range decodeCases() {
		inner, _ := roomy(list, 0)
		for _, b := range [][]byte{list, slices.Clip(list), inner, slices.Clip(inner)} {
			asWordsSay(t, b)
		}
	}
	for _, list := range unsnapCases(t) {
		clipped, inner := ownParts(list), ownParts(list)
		for i := range list {
			clipped[i] = slices.Clip(clipped[i])
			inner[i], _ = roomy(inner[i], 0)
		}
		asPartsSay(t, slices.Clip(clipped))
		inner, _ = roomy(inner, []byte{0, 0})
		asPartsSay(t, inner)
	}
	// The rest of what is cut short stands in its spare room.
	b := asEncoded(t, api.Record{Kind: put, Key: "abc", Length: 5, Stripes: []int{1, 2, 3}})
	for length := range b {
		notDecoded(t, b[:length])
	}
	first := snapped(t, keyed(3, 9))[0]
	for length := range first {
		notUnsnapped(t, first[:length], nil)
	}
}

// R5: what was asked before tells nothing: errors between leave all answers as they were.
func TestNothingIsKept(t *testing.T) {
	r := api.Record{Kind: put, Key: "abc", Length: 5, Stripes: []int{1, 2, 3}}
	l := sized(t, maxData+9, maxStripes)
	for _, bad := range decodeCases() {
		asWordsSay(t, bad)
		decoded(t, asEncoded(t, r), r)
	}
	for _, bad := range snapCases(t) {
		asSnapped(t, bad)
		notUnsnapped(t, bytesOfAll(len(bad)+1, bad), nil)
		snapped(t, l)
	}
}

// R2: where a call refuses, each of its reasons is told by the call's own error: ErrArg of what is to be written, ErrRecord of what is read.
func TestWhichError(t *testing.T) {
	for _, r := range badRecords() {
		if _, err := record.Encode(r); err != record.Check(r) {
			t.Fatalf("Encode(%s) = %d, Check tells %d", short(r), err, record.Check(r))
		}
		if len(r.Key) < 256 && len(r.Stripes) < 65536 && r.Kind >= 0 && r.Kind < 256 {
			asWordsSay(t, bytesOf(r))
		}
	}
	for _, l := range snapCases(t) {
		if mayAll(l) {
			continue
		}
		if _, err := record.Snap(l); err != api.ErrArg {
			t.Fatalf("Snap(%d objects) = %d", len(l), err)
		}
		notUnsnapped(t, cutOf(bytesOfAll(len(l), l))...)
	}
}
