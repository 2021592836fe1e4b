package disk_test

import (
	"bytes"
	"math"
	"slices"
	"testing"

	"aumbry/api"
	"aumbry/disk"
)

// The limits, written out: what api says of them is asked for too.
const (
	maxSectors = 4096
	maxBytes   = 4108
)

// sectors are what a disk holds, by place.
type sectors map[int]string

// fresh is a disk of so many sectors, to which nothing was told.
func fresh(t *testing.T, size int) *disk.Disk {
	t.Helper()
	d, err := disk.New(size)
	if err != api.OK || d == nil {
		t.Fatalf("New(%d) = %v, %d", size, d, err)
	}
	return d
}

// written writes a sector, and asks for OK.
func written(t *testing.T, d *disk.Disk, addr int, b string) {
	t.Helper()
	if err := d.Write(addr, []byte(b)); err != api.OK {
		t.Fatalf("Write(%d, %d bytes) = %d", addr, len(b), err)
	}
}

// flushed flushes, and asks for OK.
func flushed(t *testing.T, d *disk.Disk) {
	t.Helper()
	if err := d.Flush(); err != api.OK {
		t.Fatalf("Flush() = %d", err)
	}
}

// corrupted changes a byte, and asks for OK.
func corrupted(t *testing.T, d *disk.Disk, addr, at int, by byte) {
	t.Helper()
	if err := d.Corrupt(addr, at, by); err != api.OK {
		t.Fatalf("Corrupt(%d, %d, %d) = %d", addr, at, by, err)
	}
}

// reads asks for bytes.
func reads(t *testing.T, d *disk.Disk, addr int, want string) {
	t.Helper()
	if b, err := d.Read(addr); err != api.OK || string(b) != want {
		t.Fatalf("Read(%d) = %.40q, %d, want %.40q", addr, b, err, want)
	}
}

// stand asks for just these sectors, each place less than the next one.
func stand(t *testing.T, call string, list []api.Held, want sectors) {
	t.Helper()
	if len(list) != len(want) {
		t.Fatalf("%s() has %d sectors, want %d: %.200v", call, len(list), len(want), list)
	}
	for i, h := range list {
		if b, has := want[h.Addr]; !has || b != string(h.B) {
			t.Fatalf("%s() has %.40q at %d, want %.40q", call, h.B, h.Addr, b)
		}
		if i > 0 && list[i-1].Addr >= h.Addr {
			t.Fatalf("%s() has %d ahead of %d", call, list[i-1].Addr, h.Addr)
		}
	}
}

// holds asks a disk that is not dead for just what lasts and what waits, by all calls that tell of it.
func holds(t *testing.T, d *disk.Disk, size int, lasts, waits sectors) {
	t.Helper()
	stand(t, "Lasts", d.Lasts(), lasts)
	stand(t, "Waits", d.Waits(), waits)
	if d.Dead() {
		t.Fatal("it is dead")
	}
	for addr := range size {
		want, waiting := waits[addr]
		if !waiting {
			want = lasts[addr]
		}
		reads(t, d, addr, want)
	}
	outside(t, d, size)
}

// outside asks for ErrDiskAddr at both ends.
func outside(t *testing.T, d *disk.Disk, size int) {
	t.Helper()
	for _, addr := range []int{-1, size} {
		if b, err := d.Read(addr); err != api.ErrDiskAddr || len(b) != 0 {
			t.Fatalf("Read(%d) of %d sectors = %v, %d", addr, size, b, err)
		}
	}
}

// isDead asks for what a dead disk answers.
func isDead(t *testing.T, d *disk.Disk) {
	t.Helper()
	if !d.Dead() {
		t.Fatal("it is not dead")
	}
	stand(t, "Lasts", d.Lasts(), nil)
	stand(t, "Waits", d.Waits(), nil)
	if b, err := d.Read(0); err != api.ErrDiskDead || len(b) != 0 {
		t.Fatalf("Read(0) = %v, %d", b, err)
	}
}

// badAddrs are places that a disk of so many sectors does not have, those among them whose lowest bytes are a place that it has.
func badAddrs(size int) []int {
	return []int{-1, -2, -size, -size - 1, size, size + 1, 2 * size, maxSectors, maxSectors + 1, 1 << 16, 1 << 31, 1 << 32, 1<<32 + 1, -(1 << 32), 1 - 1<<32,
		math.MinInt, math.MinInt + 1, math.MaxInt - 1, math.MaxInt}
}

// someBytes are bytes that hang on the seed and their places alone.
func someBytes(seed, length int) []byte {
	b := make([]byte, length)
	x := uint32(seed)*2654435761 + 12345
	for i := range b {
		x ^= x << 13
		x ^= x >> 17
		x ^= x << 5
		b[i] = byte(x >> 11)
	}
	return b
}

// The section Errors, and the limits that the chapter names.
func TestNumbers(t *testing.T) {
	if api.OK != 0 || api.ErrArg != 1 || api.ErrDiskDead != 120 || api.ErrDiskAddr != 121 {
		t.Errorf("errors are %d, %d, %d and %d", api.OK, api.ErrArg, api.ErrDiskDead, api.ErrDiskAddr)
	}
	if api.MaxSectors != maxSectors || api.MaxData+12 != maxBytes {
		t.Errorf("limits are %d and %d", api.MaxSectors, api.MaxData+12)
	}
	d := fresh(t, 4)
	if a, b := d.Write(0, nil), d.Write(4, []byte("x")); a != 1 || b != 121 {
		t.Errorf("%d, %d", a, b)
	}
	d.Fail()
	if err := d.Flush(); err != 120 {
		t.Errorf("%d", err)
	}
}

// The chapter's examples.
func TestExamples(t *testing.T) {
	d := fresh(t, 4)
	written(t, d, 1, "a")
	reads(t, d, 1, "a")
	stand(t, "Lasts", d.Lasts(), nil)
	flushed(t, d)
	written(t, d, 1, "b")
	written(t, d, 2, "c")
	d.Crash([]int{2})
	reads(t, d, 1, "a")
	reads(t, d, 2, "c")
	d.Fail()
	if b, err := d.Read(1); err != api.ErrDiskDead || len(b) != 0 {
		t.Errorf("Read(1) = %v, %d", b, err)
	}
	d.Replace()
	reads(t, d, 1, "")
}

// P12.1: disks of so many sectors as may be, both ends among them, hold nothing, and have just so many.
func TestNew(t *testing.T) {
	for _, size := range []int{1, 2, 3, 4, 255, 256, 4095, maxSectors} {
		d := fresh(t, size)
		holds(t, d, size, nil, nil)
		written(t, d, 0, "first")
		flushed(t, d)
		written(t, d, size-1, "last")
		if size == 1 {
			holds(t, d, size, sectors{0: "first"}, sectors{0: "last"})
			continue
		}
		holds(t, d, size, sectors{0: "first"}, sectors{size - 1: "last"})
	}
}

// P12.1: others may not be.
func TestNewOutOfReach(t *testing.T) {
	for _, size := range []int{0, -1, -2, -maxSectors, maxSectors + 1, maxSectors + 2, 1 << 16, 1 << 31, 1 << 32, 1<<32 + 4, 4 - 1<<32, math.MinInt, math.MinInt + 1, math.MaxInt} {
		if d, err := disk.New(size); err != api.ErrArg || d != nil {
			t.Errorf("New(%d) = %v, %d", size, d, err)
		}
	}
}

// P12.1: a place that is not on the disk, of each call that has one; nothing is done.
func TestPlacesThatAreNot(t *testing.T) {
	for _, size := range []int{1, 2, 4, maxSectors} {
		d := fresh(t, size)
		written(t, d, 0, "lasts")
		flushed(t, d)
		written(t, d, size-1, "waits")
		lasts, waits := sectors{0: "lasts"}, sectors{size - 1: "waits"}
		for _, addr := range badAddrs(size) {
			if addr >= 0 && addr < size {
				continue
			}
			if err := d.Write(addr, []byte("x")); err != api.ErrDiskAddr {
				t.Fatalf("Write(%d) of %d sectors = %d", addr, size, err)
			}
			if b, err := d.Read(addr); err != api.ErrDiskAddr || len(b) != 0 {
				t.Fatalf("Read(%d) of %d sectors = %v, %d", addr, size, b, err)
			}
			if err := d.Corrupt(addr, 0, 1); err != api.ErrDiskAddr {
				t.Fatalf("Corrupt(%d) of %d sectors = %d", addr, size, err)
			}
		}
		holds(t, d, size, lasts, waits)
	}
}

// P12.2: lists of just so many bytes as may be, both ends among them.
func TestWriteLengths(t *testing.T) {
	d := fresh(t, 2)
	for _, length := range []int{1, 2, 3, 12, 13, 255, 256, 4095, 4096, 4097, maxBytes - 1, maxBytes} {
		for _, b := range [][]byte{make([]byte, length), bytes.Repeat([]byte{0xFF}, length), someBytes(length, length)} {
			written(t, d, 1, string(b))
			holds(t, d, 2, nil, sectors{1: string(b)})
		}
	}
}

// P12.2: none, and more than may be: ErrArg, and what stood there stands there.
func TestWriteLengthsOutOfReach(t *testing.T) {
	d := fresh(t, 4)
	written(t, d, 1, "lasts")
	written(t, d, 2, "beneath")
	flushed(t, d)
	written(t, d, 2, "waits")
	for _, length := range []int{0, maxBytes + 1, maxBytes + 2, 2 * maxBytes, 65536, 65537, 1 << 20} {
		for addr := range 4 {
			if err := d.Write(addr, make([]byte, length)); err != api.ErrArg {
				t.Fatalf("Write(%d, %d bytes) = %d", addr, length, err)
			}
		}
	}
	if err := d.Write(1, nil); err != api.ErrArg {
		t.Fatalf("Write(1, none) = %d", err)
	}
	holds(t, d, 4, sectors{1: "lasts", 2: "beneath"}, sectors{2: "waits"})
}

// P12.1, P12.2, P12.3, R2: what is told first, where more than one error could be.
func TestWhatIsToldFirst(t *testing.T) {
	d := fresh(t, 4)
	for _, addr := range badAddrs(4) {
		for _, b := range [][]byte{nil, {}, {1}, make([]byte, maxBytes+1)} {
			if err := d.Write(addr, b); err != api.ErrDiskAddr {
				t.Fatalf("Write(%d, %d bytes) = %d", addr, len(b), err)
			}
		}
		if err := d.Corrupt(addr, 0, 0); err != api.ErrDiskAddr {
			t.Fatalf("Corrupt(%d) = %d", addr, err)
		}
	}
	d.Fail()
	for _, addr := range append(badAddrs(4), 0, 1, 2, 3) {
		for _, b := range [][]byte{nil, {}, {1}, make([]byte, maxBytes+1)} {
			if err := d.Write(addr, b); err != api.ErrDiskDead {
				t.Fatalf("Write(%d, %d bytes) of a dead one = %d", addr, len(b), err)
			}
		}
		if b, err := d.Read(addr); err != api.ErrDiskDead || len(b) != 0 {
			t.Fatalf("Read(%d) of a dead one = %v, %d", addr, b, err)
		}
		if err := d.Corrupt(addr, -1, 1); err != api.ErrDiskDead {
			t.Fatalf("Corrupt(%d) of a dead one = %d", addr, err)
		}
	}
}

// P12.2: Read tells what waits, what lasts where nothing waits, and nothing where there is neither.
func TestRead(t *testing.T) {
	d := fresh(t, 4)
	written(t, d, 0, "old")
	written(t, d, 1, "beneath")
	flushed(t, d)
	written(t, d, 1, "above")
	written(t, d, 2, "alone")
	for range 3 {
		reads(t, d, 0, "old")
		reads(t, d, 1, "above")
		reads(t, d, 2, "alone")
		reads(t, d, 3, "")
	}
	holds(t, d, 4, sectors{0: "old", 1: "beneath"}, sectors{1: "above", 2: "alone"})
}

// P12.2: of what is written to one place again and again the last waits, longer or shorter, and the others are gone.
func TestWriteOver(t *testing.T) {
	d := fresh(t, 3)
	for _, b := range []string{"a", "abc", "b", "abcdefgh", "b"} {
		written(t, d, 1, b)
		holds(t, d, 3, nil, sectors{1: b})
	}
	flushed(t, d)
	for _, b := range []string{"longer than that", "c", "b"} {
		written(t, d, 1, b)
		holds(t, d, 3, sectors{1: "b"}, sectors{1: b})
	}
	d.Crash(nil)
	holds(t, d, 3, sectors{1: "b"}, nil)
}

// P12.2: Flush lets all that waits last, over what lasted there, and leaves what lasts elsewhere.
func TestFlush(t *testing.T) {
	d := fresh(t, 5)
	flushed(t, d)
	holds(t, d, 5, nil, nil)
	written(t, d, 3, "three")
	written(t, d, 0, "nought")
	flushed(t, d)
	holds(t, d, 5, sectors{0: "nought", 3: "three"}, nil)
	written(t, d, 3, "3")
	written(t, d, 4, "four")
	flushed(t, d)
	want := sectors{0: "nought", 3: "3", 4: "four"}
	holds(t, d, 5, want, nil)
	flushed(t, d)
	holds(t, d, 5, want, nil)
	d.Crash(nil)
	d.Crash([]int{0, 1, 2, 3, 4})
	holds(t, d, 5, want, nil)
}

// P12.2, P12.4: a disk that is full of sectors, of all its cache and all that lasts.
func TestFullDisk(t *testing.T) {
	d := fresh(t, maxSectors)
	lasts, waits := sectors{}, sectors{}
	for i := range maxSectors {
		addr := i * 1023 % maxSectors
		waits[addr] = string(someBytes(addr, 1+addr%20))
		written(t, d, addr, waits[addr])
	}
	holds(t, d, maxSectors, lasts, waits)
	flushed(t, d)
	lasts, waits = waits, sectors{}
	holds(t, d, maxSectors, lasts, waits)
	for addr := range maxSectors {
		waits[addr] = string(someBytes(addr+maxSectors, 1+addr%30))
		written(t, d, addr, waits[addr])
	}
	holds(t, d, maxSectors, lasts, waits)
	flushed(t, d)
	holds(t, d, maxSectors, waits, nil)
}

// P12.4: what lasts and what waits stands by its place, in whatever order it was written.
func TestByAddr(t *testing.T) {
	for _, order := range [][]int{{0, 1, 2, 3, 4, 5, 6, 7}, {7, 6, 5, 4, 3, 2, 1, 0}, {3, 0, 7, 4, 1, 6, 2, 5}, {5, 5, 2, 7, 2, 0}, {300, 2, 10, 1, 20, 100}} {
		d := fresh(t, 301)
		want := sectors{}
		for i, addr := range order {
			want[addr] = string(rune('a' + i))
			written(t, d, addr, want[addr])
		}
		places := slices.Compact(slices.Sorted(slices.Values(order)))
		for range 20 {
			atPlaces(t, d.Waits(), places)
		}
		stand(t, "Waits", d.Waits(), want)
		flushed(t, d)
		for range 20 {
			atPlaces(t, d.Lasts(), places)
		}
		stand(t, "Lasts", d.Lasts(), want)
	}
}

// atPlaces asks for just these places, in this order.
func atPlaces(t *testing.T, list []api.Held, want []int) {
	t.Helper()
	var got []int
	for _, h := range list {
		got = append(got, h.Addr)
	}
	if !slices.Equal(got, want) {
		t.Fatalf("%v, want %v", got, want)
	}
}

// Two disks are two: what one is told the other does not tell.
func TestTwoDisks(t *testing.T) {
	a, b := fresh(t, 4), fresh(t, 3)
	written(t, a, 1, "a")
	flushed(t, a)
	written(t, a, 2, "c")
	holds(t, b, 3, nil, nil)
	written(t, b, 1, "b")
	b.Crash([]int{1, 2})
	holds(t, a, 4, sectors{1: "a"}, sectors{2: "c"})
	b.Fail()
	isDead(t, b)
	holds(t, a, 4, sectors{1: "a"}, sectors{2: "c"})
	b.Replace()
	holds(t, b, 3, nil, nil)
}
