package record_test

import (
	"bytes"
	"encoding/binary"
	"math/rand"
	"slices"
	"testing"

	"aumbry/api"
	"aumbry/record"
)

// unsnapped asks for objects, and that their parts are just these.
func unsnapped(t *testing.T, parts [][]byte, want []api.Object) {
	t.Helper()
	got, err := record.Unsnap(parts)
	if err != api.OK || !sameObjects(got, want) {
		t.Fatalf("Unsnap(parts of %v bytes) = %d objects, %d, want %d", lengths(parts), len(got), err, len(want))
	}
	if again, err := record.Snap(got); err != api.OK || !sameParts(again, parts) {
		t.Fatalf("Unsnap(parts of %v bytes): %d objects, whose parts are of %v, %d", lengths(parts), len(got), lengths(again), err)
	}
}

// notUnsnapped asks for ErrRecord, and nothing beside it.
func notUnsnapped(t *testing.T, parts ...[]byte) {
	t.Helper()
	if got, err := record.Unsnap(parts); err != api.ErrRecord || len(got) != 0 {
		t.Fatalf("Unsnap(parts of %v bytes) = %d objects, %d, want ErrRecord", lengths(parts), len(got), err)
	}
}

// splitAll tells by the words which objects bytes could be.
func splitAll(b []byte) ([]api.Object, bool) {
	if len(b) < 2 {
		return nil, false
	}
	var l []api.Object
	rest := b[2:]
	for range int(binary.BigEndian.Uint16(b)) {
		if len(rest) < 6 || len(rest) < 12+int(rest[5]) {
			return nil, false
		}
		end := 12 + int(rest[5])
		end += 2 * int(binary.BigEndian.Uint16(rest[end-2:]))
		if len(rest) < end {
			return nil, false
		}
		r, is := split(rest[4:end])
		if !is || r.Kind != put {
			return nil, false
		}
		l = append(l, api.Object{Key: r.Key, Length: r.Length, Epoch: int(binary.BigEndian.Uint32(rest)), Stripes: r.Stripes})
		rest = rest[end:]
	}
	return l, len(rest) == 0 && mayAll(l)
}

// asPartsSay asks for what P16.3 says of any parts, and tells whether they are objects'.
func asPartsSay(t *testing.T, parts [][]byte) bool {
	t.Helper()
	all := slices.Concat(parts...)
	want, is := splitAll(all)
	if is = is && sameParts(parts, cutOf(all)); is {
		unsnapped(t, parts, want)
	} else {
		notUnsnapped(t, parts...)
	}
	return is
}

// P16.3: just two parts, though the bytes are those of objects.
func TestHowManyParts(t *testing.T) {
	notUnsnapped(t)
	notUnsnapped(t, nil...)
	notUnsnapped(t, nil)
	notUnsnapped(t, nil, nil)
	notUnsnapped(t, nil, nil, nil)
	notUnsnapped(t, []byte{0, 0})
	notUnsnapped(t, []byte{0, 0}, nil, nil)
	notUnsnapped(t, nil, []byte{0, 0}, nil)
	notUnsnapped(t, []byte{0}, []byte{0}, nil)
	unsnapped(t, [][]byte{{0, 0}, nil}, nil)
	unsnapped(t, [][]byte{{0, 0}, {}}, nil)
	for _, l := range someLists(t) {
		parts := cutOf(bytesOfAll(len(l), l))
		unsnapped(t, parts, l)
		notUnsnapped(t, parts[0])
		notUnsnapped(t, parts[1])
		notUnsnapped(t, slices.Concat(parts...))
		notUnsnapped(t, parts[0], parts[1], nil)
		notUnsnapped(t, nil, parts[0], parts[1])
		notUnsnapped(t, parts[0], nil, parts[1])
		notUnsnapped(t, append(slices.Clone(parts), make([][]byte, 100)...)...)
		notUnsnapped(t, slices.Concat(parts, parts)...)
	}
}

// P16.3: parts that are cut elsewhere than behind 4096 bytes, or the end.
func TestPartsCutElsewhere(t *testing.T) {
	for _, l := range someLists(t) {
		b := bytesOfAll(len(l), l)
		for at := range len(b) + 1 {
			if at == min(len(b), maxData) {
				unsnapped(t, halves(b, at), l)
			} else {
				notUnsnapped(t, halves(b, at)...)
			}
		}
		parts := cutOf(b)
		notUnsnapped(t, parts[1], parts[0])
	}
}

// P16.3: no beginning of the bytes is such of objects, nor are they with one byte more, however those are cut.
func TestBeginningsAndMoreOfParts(t *testing.T) {
	for _, l := range someLists(t) {
		b := bytesOfAll(len(l), l)
		for length := range b {
			notUnsnapped(t, cutOf(b[:length])...)
		}
		for _, more := range []byte{0, 1, 255} {
			longer := append(slices.Clone(b), more)
			notUnsnapped(t, cutOf(longer)...)
			notUnsnapped(t, longer, nil)
			notUnsnapped(t, halves(longer, len(b))...)
		}
		notUnsnapped(t, cutOf(b[1:])...)
		notUnsnapped(t, cutOf(append([]byte{0}, b...))...)
	}
}

// P16.3: bytes behind those of no objects, up to two full parts and beyond.
func TestBytesBehindObjects(t *testing.T) {
	for _, length := range []int{3, 100, maxData - 1, maxData, maxData + 1, 2*maxData - 1, 2 * maxData, 2*maxData + 1, 1 << 20} {
		for _, with := range []byte{0, 1, 255} {
			b := bytes.Repeat([]byte{with}, length)
			b[0], b[1] = 0, 0
			notUnsnapped(t, cutOf(b)...)
			notUnsnapped(t, b, nil)
			notUnsnapped(t, nil, b)
			notUnsnapped(t, []byte{0, 0}, b)
		}
	}
}

// P16.3: a count that is not the objects'.
func TestCountOfObjects(t *testing.T) {
	for _, l := range someLists(t) {
		for _, count := range []int{0, 1, 2, 3, 5, 62, 63, 64, 65, 255, 256, 257, 512, 32768, 65534, 65535} {
			parts := cutOf(bytesOfAll(count, l))
			if count == len(l) {
				unsnapped(t, parts, l)
			} else {
				notUnsnapped(t, parts...)
			}
		}
	}
}

// P16.3: bytes of objects that may not be, or not together, with all counts as they should be.
func TestBytesOfNoObjects(t *testing.T) {
	lists := [][]api.Object{keyed(maxObjects+1, 2), keyed(100, 9), {{Key: "b"}, {Key: "a"}}, {{Key: "a"}, {Key: "a"}}, {{Key: ""}}, {{Key: ""}, {Key: "a"}},
		{{Key: "a"}, {Key: "b"}, {Key: "ab"}}, {{Key: "a", Stripes: []int{256}}}, {{Key: "a", Stripes: []int{0, 65535}}}, {{Key: "a", Stripes: run(0, maxStripes+1)}},
		{{Key: "a", Stripes: run(0, maxStripes)}, {Key: "b", Stripes: []int{0}}}, {{Key: "a", Stripes: run(0, 128)}, {Key: "b", Stripes: run(0, 129)}}}
	for _, n := range []int{maxNumber + 1, maxNumber + 2, 0xC0000000, 1<<32 - 2, 1<<32 - 1} {
		lists = append(lists, []api.Object{{Key: "a", Epoch: n}}, []api.Object{{Key: "a", Length: n}})
		lists = append(lists, []api.Object{{Key: "a"}, {Key: "b", Epoch: n}}, []api.Object{{Key: "a", Epoch: n}, {Key: "b"}})
	}
	for _, key := range keysOutOfReach {
		if len(key) < 256 {
			lists = append(lists, []api.Object{{Key: key, Length: 1, Epoch: 1}})
		}
	}
	for _, l := range lists {
		if mayAll(l) {
			t.Fatalf("%v may be", l)
		}
		notUnsnapped(t, cutOf(bytesOfAll(len(l), l))...)
		if asPartsSay(t, cutOf(bytesOfAll(len(l), l))) {
			t.Fatalf("the test's own words say otherwise of %v", l)
		}
	}
}

// P16.3: an object's record is one of RPut, and no other, though a delete would have all else.
func TestObjectsOfOtherKinds(t *testing.T) {
	for kind := range 256 {
		for at := range 3 {
			l := []api.Object{{Key: "a"}, {Key: "b"}, {Key: "c"}}
			b := bytesOfAll(3, l)
			b[2+13*at+4] = byte(kind)
			if kind == put {
				unsnapped(t, cutOf(b), l)
			} else {
				notUnsnapped(t, cutOf(b)...)
			}
		}
	}
}

// P16.3, P16.4: one byte changed, anywhere, to anything.
func TestOneByteOfPartsChanged(t *testing.T) {
	long := sized(t, maxData+40, maxStripes)
	for _, l := range [][]api.Object{nil, {{Key: "a"}}, {{Key: "a", Epoch: 5, Length: 7, Stripes: []int{1, 2}}, {Key: "b", Stripes: []int{3}}, {Key: "c"}}, long} {
		parts := cutOf(bytesOfAll(len(l), l))
		objects := 0
		for _, part := range parts {
			for at, was := range part {
				for next := range 256 {
					if len(l) > 3 && (at+next)%61 != 0 {
						continue
					}
					part[at] = byte(next)
					if asPartsSay(t, parts) {
						objects++
					}
				}
				part[at] = was
			}
		}
		if objects < len(l) {
			t.Errorf("%d were objects: the test tells too little", objects)
		}
		unsnapped(t, parts, l)
	}
}

// P16.3, P16.4: bytes of all kinds, cut as they should be and elsewhere.
func TestAnyParts(t *testing.T) {
	random := rand.New(rand.NewSource(163))
	objects := 0
	for range 100000 {
		b := binary.BigEndian.AppendUint16(nil, uint16(random.Intn(3)))
		for range random.Intn(3) {
			body := make([]byte, 9+random.Intn(20))
			random.Read(body)
			nearRecord(random, body)
			epoch := make([]byte, 4)
			random.Read(epoch)
			epoch[0] &= 0x7F
			b = slices.Concat(b, epoch, body)
		}
		parts := cutOf(b)
		if random.Intn(20) == 0 {
			parts = halves(b, random.Intn(len(b)+1))
		}
		if asPartsSay(t, parts) && len(b) > 2 {
			objects++
		}
	}
	if objects < 500 {
		t.Errorf("%d were objects: the test tells too little", objects)
	}
}

// R1: any parts end, full ones and such as are far longer, whatever they hold.
func TestLongParts(t *testing.T) {
	for _, with := range []byte{0, 1, 2, 64, 255} {
		full := bytes.Repeat([]byte{with}, maxData)
		long := bytes.Repeat([]byte{with}, 1<<22)
		for _, parts := range [][][]byte{{full, full}, {full, nil}, {nil, full}, {full, long}, {long, nil}, {long, long}, {full, full, full}} {
			notUnsnapped(t, parts...)
		}
		notUnsnapped(t, slices.Repeat([][]byte{long}, 300)...)
	}
}
