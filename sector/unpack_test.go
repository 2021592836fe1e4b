package sector_test

import (
	"bytes"
	"slices"
	"testing"

	"aumbry/api"
	"aumbry/crc"
	"aumbry/sector"
)

// P11.3: at no other place than its own is a sector one.
func TestOtherPlaces(t *testing.T) {
	for _, own := range inReach {
		for _, data := range [][]byte{nil, {7}, mixed(own, 60)} {
			b := packed(t, own, 11, data)
			for _, addr := range slices.Concat(inReach, outOfReach) {
				if addr != own {
					notUnpacked(t, addr, b)
				}
			}
			for bit := range 63 {
				notUnpacked(t, own^1<<bit, b)
			}
			notUnpacked(t, -own-1, b)
			unpacked(t, own, b, 11, data)
		}
	}
	for own := range 100 {
		b := packed(t, own, own, []byte{byte(own)})
		for addr := range 100 {
			if asWordsSay(t, addr, b) != (addr == own) {
				t.Fatalf("the sector of %d, at %d", own, addr)
			}
		}
	}
}

// P11.2: a place out of reach has no sectors, not even bytes that are made as if it had.
func TestUnpackPlacesOutOfReach(t *testing.T) {
	for _, addr := range outOfReach {
		for _, data := range [][]byte{nil, {1, 2, 3}, mixed(9, maxData)} {
			notUnpacked(t, addr, framed(uint32(addr), 5, data))
			notUnpacked(t, addr, framed(0, 5, data))
			notUnpacked(t, addr, framed(maxNumber, 5, data))
		}
		notUnpacked(t, addr, nil)
	}
	// The number of four bytes is beyond MaxNumber: no place that may be is meant by it.
	for _, n := range []uint32{1 << 31, 1<<31 + 1, 1<<31 + 300, 1<<32 - 2, 1<<32 - 1} {
		b := framed(n, 5, []byte("x"))
		for _, addr := range []int{int(n), int(int32(n)), int(n &^ (1 << 31)), 0, maxNumber} {
			notUnpacked(t, addr, b)
		}
	}
}

// P11.2: an epoch above MaxNumber is none, though the check sum is right.
func TestUnpackEpochsOutOfReach(t *testing.T) {
	for _, addr := range []int{0, 1, 300, maxNumber} {
		for _, data := range [][]byte{nil, {1, 2, 3}, mixed(3, maxData)} {
			for _, epoch := range []uint32{1 << 31, 1<<31 + 1, 1<<31 + 300, 0xC0000000, 1<<32 - 2, 1<<32 - 1} {
				notUnpacked(t, addr, framed(uint32(addr), epoch, data))
			}
			unpacked(t, addr, framed(uint32(addr), maxNumber, data), maxNumber, data)
		}
	}
}

// P11.2: fewer bytes than a sector of no data has are none, though their last four are a check sum; just as many are one.
func TestUnpackFewBytes(t *testing.T) {
	for _, addr := range []int{0, 1, 0x01020304, maxNumber} {
		whole := framed(uint32(addr), 0, nil)
		for length := range 12 {
			notUnpacked(t, addr, make([]byte, length))
			notUnpacked(t, addr, mixed(length, length))
			notUnpacked(t, addr, whole[:length])
			notUnpacked(t, addr, whole[12-length:])
		}
		for ahead := range 8 {
			notUnpacked(t, addr, summed(whole[:ahead]))
			notUnpacked(t, addr, summed(make([]byte, ahead)))
		}
		unpacked(t, addr, summed(whole[:8]), 0, nil)
		notUnpacked(t, addr, make([]byte, 12))
	}
	notUnpacked(t, 0, nil)
	notUnpacked(t, 0, []byte{})
}

// P11.2: more bytes than any sector has are none, though their last four are a check sum; just as many are one.
func TestUnpackManyBytes(t *testing.T) {
	for _, addr := range []int{0, 300, maxNumber} {
		for _, length := range []int{maxData - 1, maxData} {
			data := mixed(length, length)
			unpacked(t, addr, framed(uint32(addr), 9, data), 9, data)
		}
		for _, length := range []int{maxData + 1, maxData + 2, maxBytes, maxBytes + 1, 2 * maxData, 65536, 1<<20 + 1} {
			notUnpacked(t, addr, framed(uint32(addr), 9, mixed(length, length)))
			notUnpacked(t, addr, framed(uint32(addr), 9, make([]byte, length)))
			notUnpacked(t, addr, make([]byte, length))
		}
	}
}

// differences are by what a byte is changed: each way, or in a long sector one, another at each place.
func differences(place, length int) []byte {
	if length > 130 {
		return []byte{byte(place%255 + 1)}
	}
	all := make([]byte, 255)
	for i := range all {
		all[i] = byte(i + 1)
	}
	return all
}

// P11.3: one byte changed, anywhere, by anything: no sector of its place, nor of the place that it now tells.
func TestOneByteChanged(t *testing.T) {
	lists := slices.DeleteFunc(someData(), func(data []byte) bool { return len(data) > 600 })
	for i, data := range append(lists, mixed(1, maxData)) {
		addr, epoch := []int{0, 1, 300, maxNumber}[i%4], []int{0, maxNumber, 77}[i%3]
		b := packed(t, addr, epoch, data)
		for place := range b {
			for _, by := range differences(place, len(b)) {
				b[place] ^= by
				notUnpacked(t, addr, b)
				if place < 4 {
					notUnpacked(t, addr^int(by)<<(24-8*place), b)
				}
				b[place] ^= by
			}
		}
		unpacked(t, addr, b, epoch, data)
	}
}

// P11.3: of all lists that differ in one byte at most one is a sector of a place, whether the others are made of it or not.
func TestAtMostOneOfThoseThatDiffer(t *testing.T) {
	for seed := range 40 {
		b := mixed(seed, 12+seed%9)
		copy(b, []byte{0, 0, 1, 44})
		b[4] &= 0x7F
		if seed%2 == 0 {
			b = summed(b[:len(b)-4])
		}
		for place := range b {
			was, sectors := b[place], 0
			for by := range 256 {
				b[place] = byte(by)
				if asWordsSay(t, 300, b) {
					sectors++
				}
			}
			b[place] = was
			if sectors > 1 || seed%2 == 0 && sectors != 1 {
				t.Fatalf("seed %d, at %d: %d sectors", seed, place, sectors)
			}
		}
	}
}

// P11.2: a check sum that stands lowest first, has its bits turned, or is that of a part, is none.
func TestOtherCheckSums(t *testing.T) {
	for _, data := range [][]byte{nil, {1}, []byte("some data"), mixed(4, 200)} {
		b := packed(t, 300, 77, data)
		end := len(b) - 4
		lowestFirst := slices.Clone(b)
		slices.Reverse(lowestFirst[end:])
		turned := slices.Clone(b)
		for i := range 4 {
			turned[end+i] ^= 0xFF
		}
		ofData := append(slices.Clone(b[:end]), summed(data)[len(data):]...)
		noughts := append(slices.Clone(b[:end]), 0, 0, 0, 0)
		for _, other := range [][]byte{lowestFirst, turned, ofData, noughts} {
			notUnpacked(t, 300, other)
		}
		// Numbers that stand lowest first are other ones.
		numbers := slices.Clone(b[:end])
		slices.Reverse(numbers[:4])
		slices.Reverse(numbers[4:8])
		notUnpacked(t, 300, summed(numbers))
		unpacked(t, 300, summed(b[:end]), 77, data)
	}
}

// P11.2: every beginning of a sector is told as any bytes are.
func TestBeginnings(t *testing.T) {
	for i, data := range someData() {
		b := packed(t, 300, i, data)
		for length := range b {
			// Long ones are begun at both ends, and here and there.
			if length < 40 || length > len(b)-40 || length%97 == 0 {
				asWordsSay(t, 300, b[:length])
			}
		}
	}
	// None of these is one by chance.
	b := packed(t, 300, 5, mixed(8, 300))
	for length := range b {
		notUnpacked(t, 300, b[:length])
	}
}

// P11.2: where data holds a check sum of all ahead of it, the beginning up to there is a sector, of what stands between.
func TestBeginningThatIsASector(t *testing.T) {
	for _, length := range []int{0, 1, 4, 50, maxData - 8, maxData - 5, maxData - 4} {
		inner := mixed(length, length)
		first := packed(t, 300, 9, inner)
		room := maxData - len(inner) - 4
		b := packed(t, 300, 9, slices.Concat(inner, first[len(first)-4:], mixed(3, min(room, 20))))
		if !bytes.HasPrefix(b, first) {
			t.Fatalf("% x does not begin with % x", b, first)
		}
		unpacked(t, 300, b[:len(first)], 9, inner)
		notUnpacked(t, 301, b[:len(first)])
		notUnpacked(t, 300, b[:len(first)-1])
		notUnpacked(t, 300, b[:len(first)+1])
	}
}

// P11.2: a sector with bytes behind it is told as any bytes are; with its check sum behind it it is one of more data, while that is not too much.
func TestBytesBehind(t *testing.T) {
	for i, data := range someData() {
		b := packed(t, 300, i, data)
		for behind := 1; behind < 20; behind++ {
			asWordsSay(t, 300, append(slices.Clone(b), make([]byte, behind)...))
			asWordsSay(t, 300, append(slices.Clone(b), mixed(behind, behind)...))
		}
		notUnpacked(t, 300, append(slices.Clone(b), 0))
		notUnpacked(t, 300, append(slices.Clone(b), b...))
		longer := summed(b)
		if len(data)+4 > maxData {
			notUnpacked(t, 300, longer)
			continue
		}
		sum := crc.Sum(b[:len(b)-4])
		unpacked(t, 300, longer, i, slices.Concat(data, []byte{byte(sum >> 24), byte(sum >> 16), byte(sum >> 8), byte(sum)}))
		notUnpacked(t, 301, longer)
	}
}

// P11.2: bytes of all kinds, with a check sum and without, at places that they tell and at others.
func TestAnyBytes(t *testing.T) {
	sectors := 0
	for seed := range 3000 {
		b := mixed(seed, seed%60)
		if seed%2 == 0 {
			b = summed(b)
		}
		if seed%4 < 2 && len(b) >= 12 {
			copy(b, []byte{0, 0, 0, byte(seed)})
			b = summed(b[:len(b)-4])
		}
		for _, addr := range []int{0, 1, seed, seed % 256, -1, maxNumber} {
			if asWordsSay(t, addr, b) {
				sectors++
			}
		}
	}
	if sectors < 300 {
		t.Fatalf("%d were sectors: the test tells too little", sectors)
	}
}

// sectorCase is what Unpack may be given.
type sectorCase struct {
	addr int
	b    []byte
}

// sectorCases tell all kinds of answers.
func sectorCases() []sectorCase {
	cases := []sectorCase{{1, nil}, {1, []byte{}}, {0, make([]byte, 12)}, {-1, framed(0, 0, nil)}, {0, framed(0, 1<<31, nil)}, {0, framed(0, 0, make([]byte, maxData+1))}}
	for i, data := range someData() {
		b := framed(300, uint32(i), data)
		cases = append(cases, sectorCase{300, b}, sectorCase{301, b}, sectorCase{300, b[:len(b)-1]})
	}
	return cases
}

// R3, R4: what is handed to Unpack is left as it was, by answers and by errors, and shares no memory with an answer; nor do two answers.
func TestUnpackMemory(t *testing.T) {
	for _, c := range sectorCases() {
		b, whole := roomy(c.b)
		before := slices.Clone(whole)
		epoch, data, err := sector.Unpack(c.addr, b)
		want := slices.Clone(data)
		_, other, _ := sector.Unpack(c.addr, b)
		spoil(other, 0x11)
		if !bytes.Equal(data, want) {
			t.Fatalf("two answers of Unpack(%d, %d bytes) share memory", c.addr, len(b))
		}
		spoil(data, 0x22)
		if !bytes.Equal(whole, before) {
			t.Fatalf("what Unpack(%d, %d bytes) was given has changed", c.addr, len(b))
		}
		epochAgain, again, errAgain := sector.Unpack(c.addr, b)
		if epochAgain != epoch || errAgain != err || !bytes.Equal(again, want) {
			t.Fatalf("Unpack(%d, %d bytes) answers otherwise the second time", c.addr, len(b))
		}
		spoil(whole, 0x33)
		if !bytes.Equal(again, want) {
			t.Fatalf("the answer of Unpack(%d, %d bytes) has changed with what was given", c.addr, len(b))
		}
	}
}

// R4: bytes behind an answer's data, in its spare room, may be appended over without a trace in what was given.
func TestUnpackedDataIsAppendedTo(t *testing.T) {
	b := packed(t, 1, 2, []byte("abc"))
	_, data, err := sector.Unpack(1, b)
	more := append(data, "0123456789"...)
	if err != api.OK || string(more) != "abc0123456789" {
		t.Fatalf("%q, %d", more, err)
	}
	unpacked(t, 1, b, 2, []byte("abc"))
}

// R5: neither spare room nor what stands about a list tells in what is unpacked; none is as an empty list.
func TestUnpackCapacityDoesNotTell(t *testing.T) {
	for _, c := range sectorCases() {
		epoch, data, err := sector.Unpack(c.addr, c.b)
		inner, _ := roomy(c.b)
		for _, b := range [][]byte{inner, slices.Clip(inner), slices.Clone(c.b)} {
			gotEpoch, gotData, gotErr := sector.Unpack(c.addr, b)
			if gotEpoch != epoch || gotErr != err || !bytes.Equal(gotData, data) {
				t.Fatalf("Unpack(%d, %d bytes) hangs on what stands about them", c.addr, len(b))
			}
		}
	}
	// The rest of a sector that is cut short stands in its spare room.
	b := packed(t, 1, 2, []byte("abc"))
	for length := range b {
		notUnpacked(t, 1, b[:length])
	}
}
