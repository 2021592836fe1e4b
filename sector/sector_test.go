package sector_test

import (
	"bytes"
	"encoding/binary"
	"hash/crc32"
	"math"
	"slices"
	"testing"

	"aumbry/api"
	"aumbry/crc"
	"aumbry/sector"
)

// The limits, written out: what api says of them is asked for too.
const (
	maxNumber = 2147483647
	maxData   = 4096
	frame     = 12
	maxBytes  = maxData + frame
)

// inReach are numbers that may stand in a sector: both ends, such as have one byte, and such as have four of their own.
var inReach = []int{0, 1, 2, 127, 128, 255, 256, 300, 4095, 4096, 65535, 65536, 1 << 23, 1<<24 - 1, 1 << 24, 0x01020304, 0x7F000080, 1 << 30, maxNumber - 1, maxNumber}

// outOfReach are numbers that may not, those among them whose lowest four bytes are a number that may.
var outOfReach = []int{-1, -2, -256, -maxNumber, -maxNumber - 1, -maxNumber - 2, -(1 << 32), 1 - 1<<32, math.MinInt, math.MinInt + 1,
	maxNumber + 1, maxNumber + 2, 1<<32 - 1, 1 << 32, 1<<32 + 1, 1<<32 + 300, 1<<33 + maxNumber, 1 << 62, math.MaxInt - 1, math.MaxInt}

// mixed are bytes that hang on the seed and their places alone.
func mixed(seed, length int) []byte {
	b := make([]byte, length)
	x := uint32(seed)*2654435761 + 12345
	for i := range b {
		x ^= x << 13
		x ^= x >> 17
		x ^= x << 5
		b[i] = byte(x >> 11)
	}
	return b
}

// someData are ordinary data, with both ends of their lengths.
func someData() [][]byte {
	lists := [][]byte{nil, {}}
	for _, n := range []int{1, 2, 3, 4, 5, 7, 8, 11, 12, 13, 16, 100, 255, 256, 257, 511, 512, 4084, maxData - 1, maxData} {
		lists = append(lists, make([]byte, n), bytes.Repeat([]byte{0xFF}, n), mixed(n, n))
	}
	return lists
}

// summed are bytes with their check sum behind them, by Go's own tables.
func summed(b []byte) []byte {
	sum := crc32.Checksum(b, crc32.MakeTable(crc32.Castagnoli))
	return binary.BigEndian.AppendUint32(slices.Clone(b), sum)
}

// framed are the bytes of P11.1, of any two numbers of four bytes and of data of any length.
func framed(addr, epoch uint32, data []byte) []byte {
	b := binary.BigEndian.AppendUint32(nil, addr)
	b = binary.BigEndian.AppendUint32(b, epoch)
	return summed(append(b, data...))
}

// packed is what Pack answers, which is held against P11.1's words.
func packed(t *testing.T, addr, epoch int, data []byte) []byte {
	t.Helper()
	b, err := sector.Pack(addr, epoch, data)
	want := framed(uint32(addr), uint32(epoch), data)
	if err != api.OK || !bytes.Equal(b, want) {
		t.Fatalf("Pack(%d, %d, %d bytes) = % x, %d, want % x", addr, epoch, len(data), b, err, want)
	}
	return b
}

// notPacked asks for ErrArg, and nothing beside it.
func notPacked(t *testing.T, addr, epoch int, data []byte) {
	t.Helper()
	if b, err := sector.Pack(addr, epoch, data); err != api.ErrArg || len(b) != 0 {
		t.Fatalf("Pack(%d, %d, %d bytes) = %d bytes, %d, want ErrArg", addr, epoch, len(data), len(b), err)
	}
}

// unpacked asks for an epoch and data.
func unpacked(t *testing.T, addr int, b []byte, wantEpoch int, wantData []byte) {
	t.Helper()
	epoch, data, err := sector.Unpack(addr, b)
	if err != api.OK || epoch != wantEpoch || !bytes.Equal(data, wantData) {
		t.Fatalf("Unpack(%d, %d bytes) = %d, % x, %d, want %d, % x", addr, len(b), epoch, data, err, wantEpoch, wantData)
	}
}

// notUnpacked asks for ErrSector, and nothing beside it.
func notUnpacked(t *testing.T, addr int, b []byte) {
	t.Helper()
	epoch, data, err := sector.Unpack(addr, b)
	if err != api.ErrSector || epoch != 0 || len(data) != 0 {
		t.Fatalf("Unpack(%d, %d bytes, % x) = %d, % x, %d, want ErrSector", addr, len(b), b[:min(len(b), 40)], epoch, data, err)
	}
}

// asWordsSay asks for what P11.2 says of any bytes, and tells whether they are a sector of that place.
func asWordsSay(t *testing.T, addr int, b []byte) bool {
	t.Helper()
	if len(b) < frame || len(b) > maxBytes || !bytes.Equal(b, summed(b[:len(b)-4])) {
		notUnpacked(t, addr, b)
		return false
	}
	place, epoch := int(binary.BigEndian.Uint32(b)), int(binary.BigEndian.Uint32(b[4:]))
	if place != addr || place > maxNumber || epoch > maxNumber {
		notUnpacked(t, addr, b)
		return false
	}
	unpacked(t, addr, b, epoch, b[8:len(b)-4])
	return true
}

// The section Errors, and the limits that P11.1 names.
func TestNumbers(t *testing.T) {
	if api.OK != 0 || api.ErrArg != 1 || api.ErrSector != 110 {
		t.Errorf("errors are %d, %d and %d", api.OK, api.ErrArg, api.ErrSector)
	}
	if api.MaxNumber != maxNumber || api.MaxData != maxData {
		t.Errorf("limits are %d and %d", api.MaxNumber, api.MaxData)
	}
	if _, err := sector.Pack(-1, 0, nil); err != 1 {
		t.Errorf("Pack(-1, 0, none) = %d", err)
	}
	if _, _, err := sector.Unpack(0, nil); err != 110 {
		t.Errorf("Unpack(0, none) = %d", err)
	}
}

// The chapter's examples.
func TestExamples(t *testing.T) {
	that, err := sector.Pack(1, 2, nil)
	if err != api.OK || len(that) != 12 || !bytes.Equal(that[:8], []byte{0, 0, 0, 1, 0, 0, 0, 2}) {
		t.Fatalf("Pack(1, 2, none) = %v, %d", that, err)
	}
	unpacked(t, 1, that, 2, nil)
	notUnpacked(t, 2, that)
	notUnpacked(t, 1, nil)
}

// P11.1: sectors that are known, written out whole.
func TestKnownSectors(t *testing.T) {
	for _, c := range []struct {
		addr, epoch int
		data        string
		want        []byte
	}{
		{0, 0, "", []byte{0, 0, 0, 0, 0, 0, 0, 0, 0x8C, 0x28, 0xB2, 0x8A}},
		{1, 2, "", []byte{0, 0, 0, 1, 0, 0, 0, 2, 0x55, 0x02, 0xAD, 0xD1}},
		{300, maxNumber, "data", []byte{0, 0, 1, 44, 127, 255, 255, 255, 'd', 'a', 't', 'a', 0xCD, 0xF4, 0x34, 0xE5}},
	} {
		if b, err := sector.Pack(c.addr, c.epoch, []byte(c.data)); err != api.OK || !bytes.Equal(b, c.want) {
			t.Errorf("Pack(%d, %d, %s) = % x, %d, want % x", c.addr, c.epoch, c.data, b, err, c.want)
		}
		unpacked(t, c.addr, c.want, c.epoch, []byte(c.data))
	}
}

// P11.1: the bytes of both numbers and of the check sum stand highest first, at their places.
func TestHighestFirst(t *testing.T) {
	b := packed(t, 0x01020304, 0x7A6B5C4D, []byte{9, 8, 7})
	if !bytes.Equal(b[:11], []byte{1, 2, 3, 4, 0x7A, 0x6B, 0x5C, 0x4D, 9, 8, 7}) {
		t.Errorf("% x", b)
	}
	sum := crc.Sum(b[:11])
	if !bytes.Equal(b[11:], []byte{byte(sum >> 24), byte(sum >> 16), byte(sum >> 8), byte(sum)}) {
		t.Errorf("% x, whose sum is %#x", b, sum)
	}
	// Each bit of a number stands where it should.
	for bit := range 31 {
		want := make([]byte, 4)
		want[3-bit/8] = 1 << (bit % 8)
		if b := packed(t, 1<<bit, 0, nil); !bytes.Equal(b[:4], want) || !bytes.Equal(b[4:8], make([]byte, 4)) {
			t.Errorf("the place 1<<%d: % x", bit, b)
		}
		if b := packed(t, 0, 1<<bit, nil); !bytes.Equal(b[4:8], want) || !bytes.Equal(b[:4], make([]byte, 4)) {
			t.Errorf("the epoch 1<<%d: % x", bit, b)
		}
	}
}

// P11.1: the last four are crc.Sum of all those ahead, addr and epoch among them.
func TestCheckSumIsOfAllAhead(t *testing.T) {
	for _, data := range someData() {
		for _, numbers := range [][2]int{{0, 0}, {1, 2}, {2, 1}, {maxNumber, 7}, {7, maxNumber}} {
			b := packed(t, numbers[0], numbers[1], data)
			ahead := b[:len(b)-4]
			if got, want := binary.BigEndian.Uint32(b[len(b)-4:]), crc.Sum(ahead); got != want {
				t.Fatalf("Pack(%v, %d bytes): %#x, want %#x", numbers, len(data), got, want)
			}
		}
	}
}

// P11.1, P11.2, P11.3: every two numbers that may be, with data: what is packed is unpacked.
func TestNumbersInReach(t *testing.T) {
	for _, addr := range inReach {
		for _, epoch := range inReach {
			for _, data := range [][]byte{nil, {0}, []byte("some data"), mixed(addr^epoch, 50)} {
				unpacked(t, addr, packed(t, addr, epoch, data), epoch, data)
			}
		}
	}
}

// P11.1, P11.2, P11.3: data of all kinds and lengths, both ends among them: what is packed is unpacked.
func TestDataInReach(t *testing.T) {
	for i, data := range someData() {
		for _, numbers := range [][2]int{{0, 0}, {i, 3 * i}, {maxNumber, maxNumber}} {
			b := packed(t, numbers[0], numbers[1], data)
			if len(b) != len(data)+12 {
				t.Fatalf("%d bytes are packed in %d", len(data), len(b))
			}
			unpacked(t, numbers[0], b, numbers[1], data)
		}
	}
	for length := range maxData + 1 {
		data := mixed(length, length)
		unpacked(t, length, packed(t, length, 5, data), 5, data)
	}
}

// P11.1: a place or an epoch that may not be, with the other and the data as they may be or not.
func TestPackNumbersOutOfReach(t *testing.T) {
	for _, data := range [][]byte{nil, {1, 2, 3}, make([]byte, maxData), make([]byte, maxData+1)} {
		for _, n := range outOfReach {
			for _, other := range slices.Concat(inReach, outOfReach) {
				notPacked(t, n, other, data)
				notPacked(t, other, n, data)
			}
		}
	}
}

// P11.1: just so much data is allowed, and one byte more is not, whatever the numbers.
func TestPackMuchData(t *testing.T) {
	for _, n := range []int{0, 1, 300, maxNumber} {
		packed(t, n, n, mixed(n, maxData-1))
		packed(t, n, n, mixed(n, maxData))
		for _, length := range []int{maxData + 1, maxData + 2, maxBytes, maxBytes + 1, 65536, 1 << 20} {
			notPacked(t, n, n, make([]byte, length))
		}
	}
}

// roomy is a copy of bytes with others on both sides; all of it is told by whole.
func roomy(b []byte) (inner, whole []byte) {
	whole = slices.Concat([]byte{0x71, 0x72}, b, []byte{0xA5, 0x5A, 0x77})
	return whole[2 : 2+len(b)], whole
}

// spoil writes over all that a list holds, spare room too.
func spoil(b []byte, with byte) {
	room := b[:cap(b)]
	for i := range room {
		room[i] = with
	}
}

// R3, R4: what is handed to Pack is left as it was, by answers and by errors, and shares no memory with an answer; nor do two answers.
func TestPackMemory(t *testing.T) {
	for _, list := range append(someData(), make([]byte, maxData+1)) {
		for _, addr := range []int{0, 300, maxNumber, -1} {
			data, whole := roomy(list)
			before := slices.Clone(whole)
			b, err := sector.Pack(addr, 7, data)
			want := slices.Clone(b)
			other, _ := sector.Pack(addr, 7, data)
			spoil(other, 0x11)
			if !bytes.Equal(b, want) {
				t.Fatalf("two answers of Pack(%d, 7, %d bytes) share memory", addr, len(list))
			}
			spoil(b, 0x22)
			if !bytes.Equal(whole, before) {
				t.Fatalf("what Pack(%d, 7, %d bytes) was given has changed", addr, len(list))
			}
			again, errAgain := sector.Pack(addr, 7, data)
			if errAgain != err || !bytes.Equal(again, want) {
				t.Fatalf("Pack(%d, 7, %d bytes) answers otherwise the second time", addr, len(list))
			}
			spoil(whole, 0x33)
			if !bytes.Equal(again, want) {
				t.Fatalf("the answer of Pack(%d, 7, %d bytes) has changed with what was given", addr, len(list))
			}
		}
	}
}

// R5: neither spare room nor what stands about data tells in a sector.
func TestPackCapacityDoesNotTell(t *testing.T) {
	for _, list := range someData() {
		inner, _ := roomy(list)
		a, b, c := packed(t, 5, 6, list), packed(t, 5, 6, inner), packed(t, 5, 6, slices.Clip(inner))
		if !bytes.Equal(a, b) || !bytes.Equal(a, c) {
			t.Fatalf("%d bytes are packed in more ways than one", len(list))
		}
	}
	if a, b := packed(t, 5, 6, nil), packed(t, 5, 6, []byte{}); !bytes.Equal(a, b) {
		t.Fatalf("no bytes are packed as % x and as % x", a, b)
	}
}
