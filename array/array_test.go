package array_test

import (
	"math"
	"slices"
	"testing"

	"aumbry/api"
	"aumbry/array"
)

// The limits, written out: what api says of them is asked for too.
const (
	maxDisks   = 32
	maxSectors = 4096
	maxBytes   = 4108
)

// sectors are what a disk holds, by place.
type sectors map[int]string

// side is what one disk is to hold, how often it was born, and whether it is dead.
type side struct {
	lasts, waits sectors
	births       int
	dead         bool
}

// fresh is an array to which nothing was told.
func fresh(t *testing.T, disks, size int) *array.Array {
	t.Helper()
	a, err := array.New(disks, size)
	if err != api.OK || a == nil {
		t.Fatalf("New(%d, %d) = %v, %d", disks, size, a, err)
	}
	return a
}

// written writes a sector, and asks for OK.
func written(t *testing.T, a *array.Array, disk, addr int, b string) {
	t.Helper()
	if err := a.Write(disk, addr, []byte(b)); err != api.OK {
		t.Fatalf("Write(%d, %d, %d bytes) = %d", disk, addr, len(b), err)
	}
}

// ok asks for OK.
func ok(t *testing.T, call string, err api.Errno) {
	t.Helper()
	if err != api.OK {
		t.Fatalf("%s = %d", call, err)
	}
}

// laid writes on a disk what lasts, flushes, and writes what waits.
func laid(t *testing.T, a *array.Array, disk int, lasts, waits sectors) {
	t.Helper()
	for addr, b := range lasts {
		written(t, a, disk, addr, b)
	}
	ok(t, "Flush()", a.Flush())
	for addr, b := range waits {
		written(t, a, disk, addr, b)
	}
}

// stand asks for just these sectors, each place less than the next one.
func stand(t *testing.T, call string, disk int, list []api.Held, want sectors) {
	t.Helper()
	if len(list) != len(want) {
		t.Fatalf("%s(%d) has %d sectors, want %d: %.200v", call, disk, len(list), len(want), list)
	}
	for i, h := range list {
		if b, has := want[h.Addr]; !has || b != string(h.B) {
			t.Fatalf("%s(%d) has %.40q at %d, want %.40q", call, disk, h.B, h.Addr, b)
		}
		if i > 0 && list[i-1].Addr >= h.Addr {
			t.Fatalf("%s(%d) has %d ahead of %d", call, disk, list[i-1].Addr, h.Addr)
		}
	}
}

// told asks an array for just these disks, by the calls that answer down or not.
func told(t *testing.T, a *array.Array, down bool, want ...side) {
	t.Helper()
	live, births := a.Live(), a.Births()
	if len(live) != len(want) || len(births) != len(want) {
		t.Fatalf("Live() = %v, Births() = %v, want %d of each", live, births, len(want))
	}
	for i, w := range want {
		stand(t, "Lasts", i, a.Lasts(i), w.lasts)
		stand(t, "Waits", i, a.Waits(i), w.waits)
		if live[i] == w.dead || births[i] != w.births {
			t.Fatalf("disk %d is live: %v, of %d births; want dead: %v, of %d", i, live[i], births[i], w.dead, w.births)
		}
	}
	if a.Down() != down {
		t.Fatalf("Down() = %v", a.Down())
	}
}

// holds asks an array that is not down for just these disks, of so many sectors, by all calls that tell of them.
func holds(t *testing.T, a *array.Array, size int, want ...side) {
	t.Helper()
	told(t, a, false, want...)
	for i, w := range want {
		for addr := -1; addr <= size; addr++ {
			b, err := a.Read(i, addr)
			wanted, wantErr := w.read(addr, size)
			if string(b) != wanted || err != wantErr {
				t.Fatalf("Read(%d, %d) = %.40q, %d, want %.40q, %d", i, addr, b, err, wanted, wantErr)
			}
		}
	}
}

// read is what a disk is to answer to Read.
func (s side) read(addr, size int) (string, api.Errno) {
	if s.dead {
		return "", api.ErrDiskDead
	}
	if addr < 0 || addr >= size {
		return "", api.ErrDiskAddr
	}
	if b, waiting := s.waits[addr]; waiting {
		return b, api.OK
	}
	return s.lasts[addr], api.OK
}

// badDisks are numbers that no disk of so many has, those among them whose lowest bytes are one that there is.
func badDisks(disks int) []int {
	return []int{-1, -2, -disks, -disks - 1, disks, disks + 1, maxDisks, maxDisks + 1, 256, 257, 1 << 16, 1 << 31, 1 << 32, 1<<32 + 1, 1 - 1<<32, -(1 << 32), math.MinInt, math.MinInt + 1, math.MaxInt - 1, math.MaxInt}
}

// someBytes are bytes that hang on the seed and their places alone.
func someBytes(seed, length int) []byte {
	b := make([]byte, length)
	x := uint32(seed)*2654435761 + 12345
	for i := range b {
		x ^= x << 13
		x ^= x >> 17
		x ^= x << 5
		b[i] = byte(x >> 11)
	}
	return b
}

// The section Errors, and the limits that the chapter names.
func TestNumbers(t *testing.T) {
	if api.OK != 0 || api.ErrArg != 1 || api.ErrDiskDead != 120 || api.ErrDiskAddr != 121 || api.ErrCrashed != 130 {
		t.Errorf("errors are %d, %d, %d, %d and %d", api.OK, api.ErrArg, api.ErrDiskDead, api.ErrDiskAddr, api.ErrCrashed)
	}
	if api.MaxDisks != maxDisks || api.MaxSectors != maxSectors || api.MaxData+12 != maxBytes {
		t.Errorf("limits are %d, %d and %d", api.MaxDisks, api.MaxSectors, api.MaxData+12)
	}
	a := fresh(t, 2, 4)
	if x, y := a.Write(2, 0, []byte("x")), a.Write(1, 4, []byte("x")); x != 1 || y != 121 {
		t.Errorf("%d, %d", x, y)
	}
	a.Fail(1)
	if x := a.Write(1, 0, []byte("x")); x != 120 {
		t.Errorf("%d", x)
	}
	a.CrashAfter(0)
	if x := a.Write(0, 0, []byte("x")); x != 130 {
		t.Errorf("%d", x)
	}
}

// The chapter's examples.
func TestExamples(t *testing.T) {
	a := fresh(t, 2, 4)
	a.CrashAfter(1)
	written(t, a, 0, 1, "a")
	if b, err := a.Read(0, 1); err != api.ErrCrashed || len(b) != 0 {
		t.Errorf("Read(0, 1) = %v, %d", b, err)
	}
	a.Restart([][]int{{1}})
	holds(t, a, 4, side{lasts: sectors{1: "a"}}, side{})
	ok(t, "Fail(1)", a.Fail(1))
	if err := a.Write(1, 1, []byte("b")); err != api.ErrDiskDead {
		t.Errorf("Write(1, 1) = %d", err)
	}
	if live, births := a.Live(), a.Births(); !slices.Equal(live, []bool{true, false}) || !slices.Equal(births, []int{0, 1}) {
		t.Errorf("%v, %v", live, births)
	}
}

// P13.1: arrays of so many disks and sectors as may be, both ends among them, hold nothing, have just so many, and no crash is to come.
func TestNew(t *testing.T) {
	for _, disks := range []int{1, 2, 3, 31, maxDisks} {
		for _, size := range []int{1, 2, 4, 4095, maxSectors} {
			a := fresh(t, disks, size)
			want := make([]side, disks)
			told(t, a, false, want...)
			for i := range disks {
				if x, y := a.Write(i, size, []byte("x")), a.Write(i, -1, []byte("x")); x != api.ErrDiskAddr || y != api.ErrDiskAddr {
					t.Fatalf("Write of disk %d of %d sectors, outside: %d, %d", i, size, x, y)
				}
				written(t, a, i, size-1, string(someBytes(i, 9)))
				want[i].waits = sectors{size - 1: string(someBytes(i, 9))}
			}
			told(t, a, false, want...)
			if x, y := a.Write(disks, 0, []byte("x")), a.Write(-1, 0, []byte("x")); x != api.ErrArg || y != api.ErrArg {
				t.Fatalf("Write of no disk of %d: %d, %d", disks, x, y)
			}
		}
	}
}

// P13.1: others may not be, whichever of the two is wrong.
func TestNewOutOfReach(t *testing.T) {
	badSizes := []int{0, -1, -2, -maxSectors, maxSectors + 1, maxSectors + 2, 1 << 16, 1 << 31, 1 << 32, 1<<32 + 4, 4 - 1<<32, math.MinInt, math.MinInt + 1, math.MaxInt}
	numbers := []int{0, -1, -2, -maxDisks, maxDisks + 1, maxDisks + 2, 64, 256, 257, 1 << 31, 1 << 32, 1<<32 + 4, 4 - 1<<32, math.MinInt, math.MinInt + 1, math.MaxInt}
	refused := func(disks, size int) {
		if a, err := array.New(disks, size); err != api.ErrArg || a != nil {
			t.Errorf("New(%d, %d) = %v, %d", disks, size, a, err)
		}
	}
	for _, disks := range numbers {
		for _, size := range append([]int{1, 4, maxSectors}, badSizes...) {
			refused(disks, size)
		}
	}
	for _, size := range badSizes {
		for _, disks := range []int{1, 2, maxDisks} {
			refused(disks, size)
		}
	}
}

// P13.2, P13.3, P13.4: a disk that is not there, of each call that has one; nothing is done, and no write is counted.
func TestDisksThatAreNot(t *testing.T) {
	for _, disks := range []int{1, 2, 3, maxDisks} {
		a := fresh(t, disks, 4)
		want := make([]side, disks)
		want[0] = side{lasts: sectors{1: "lasts"}, waits: sectors{2: "waits"}}
		laid(t, a, 0, want[0].lasts, want[0].waits)
		a.CrashAfter(1)
		for _, disk := range badDisks(disks) {
			if disk >= 0 && disk < disks {
				continue
			}
			noSuchDisk(t, a, disk, api.ErrArg)
			holds(t, a, 4, want...)
		}
		a.CrashAfter(0)
		for _, disk := range badDisks(disks) {
			if disk >= 0 && disk < disks {
				continue
			}
			noSuchDisk(t, a, disk, api.ErrCrashed)
			told(t, a, true, want...)
		}
	}
}

// noSuchDisk asks for what calls of a disk that is not there answer; of Write and Read that is told.
func noSuchDisk(t *testing.T, a *array.Array, disk int, want api.Errno) {
	t.Helper()
	for _, addr := range []int{0, 1, 2, 3, 4, -1} {
		for _, b := range [][]byte{nil, {1}, make([]byte, maxBytes+1)} {
			if err := a.Write(disk, addr, b); err != want {
				t.Fatalf("Write(%d, %d, %d bytes) = %d, want %d", disk, addr, len(b), err, want)
			}
		}
		if b, err := a.Read(disk, addr); err != want || len(b) != 0 {
			t.Fatalf("Read(%d, %d) = %v, %d, want %d", disk, addr, b, err, want)
		}
		if err := a.Corrupt(disk, addr, 0, 1); err != api.ErrArg {
			t.Fatalf("Corrupt(%d, %d) = %d", disk, addr, err)
		}
	}
	if x, y := a.Fail(disk), a.Replace(disk); x != api.ErrArg || y != api.ErrArg {
		t.Fatalf("Fail(%d), Replace(%d) = %d, %d", disk, disk, x, y)
	}
	if x, y := a.Lasts(disk), a.Waits(disk); len(x) != 0 || len(y) != 0 {
		t.Fatalf("Lasts(%d), Waits(%d) = %v, %v", disk, disk, x, y)
	}
}

// P13.2: Write, Read and Flush are the disks', of each of them.
func TestWriteReadFlush(t *testing.T) {
	a := fresh(t, 3, 4)
	ok(t, "Flush()", a.Flush())
	holds(t, a, 4, side{}, side{}, side{})
	written(t, a, 0, 1, "zero")
	written(t, a, 2, 1, "two")
	written(t, a, 2, 3, "last")
	holds(t, a, 4, side{waits: sectors{1: "zero"}}, side{}, side{waits: sectors{1: "two", 3: "last"}})
	ok(t, "Flush()", a.Flush())
	holds(t, a, 4, side{lasts: sectors{1: "zero"}}, side{}, side{lasts: sectors{1: "two", 3: "last"}})
	written(t, a, 1, 0, "one")
	written(t, a, 2, 3, "over")
	written(t, a, 2, 3, "o")
	holds(t, a, 4, side{lasts: sectors{1: "zero"}}, side{waits: sectors{0: "one"}}, side{lasts: sectors{1: "two", 3: "last"}, waits: sectors{3: "o"}})
	ok(t, "Flush()", a.Flush())
	holds(t, a, 4, side{lasts: sectors{1: "zero"}}, side{lasts: sectors{0: "one"}}, side{lasts: sectors{1: "two", 3: "o"}})
}

// P13.2: lists of just so many bytes as may be are written, and no others: the disk's error, and nothing is done.
func TestWriteLengths(t *testing.T) {
	a := fresh(t, 2, 2)
	for _, length := range []int{1, 2, 13, 4096, maxBytes - 1, maxBytes} {
		b := string(someBytes(length, length))
		written(t, a, 1, 0, b)
		holds(t, a, 2, side{}, side{waits: sectors{0: b}})
		for _, bad := range []int{0, maxBytes + 1, 65536, 65537} {
			if err := a.Write(1, 0, make([]byte, bad)); err != api.ErrArg {
				t.Fatalf("Write(1, 0, %d bytes) = %d", bad, err)
			}
		}
		holds(t, a, 2, side{}, side{waits: sectors{0: b}})
	}
}

// P13.2: Flush is OK, and flushes those disks that are not dead, wherever dead ones stand, and if all are.
func TestFlushWithDeadDisks(t *testing.T) {
	for choice := range 1 << 4 {
		a := fresh(t, 4, 3)
		want := make([]side, 4)
		for i := range want {
			laid(t, a, i, nil, sectors{i % 3: "w" + string(rune('0'+i))})
		}
		ok(t, "Flush()", a.Flush())
		for i := range want {
			written(t, a, i, i%3, "over")
			want[i] = side{lasts: sectors{i % 3: "over"}}
			if choice>>i&1 != 0 {
				ok(t, "Fail", a.Fail(i))
				want[i] = side{dead: true, births: 1}
			}
		}
		ok(t, "Flush()", a.Flush())
		holds(t, a, 3, want...)
	}
}

// P13.2, P13.3, R2: what is told first, where more than one error could be.
func TestWhatIsToldFirst(t *testing.T) {
	a := fresh(t, 2, 4)
	asked := func(disk, addr int, b []byte, write, read, corrupt api.Errno) {
		t.Helper()
		if err := a.Write(disk, addr, b); err != write {
			t.Errorf("Write(%d, %d, %d bytes) = %d, want %d", disk, addr, len(b), err, write)
		}
		if got, err := a.Read(disk, addr); err != read || len(got) != 0 {
			t.Errorf("Read(%d, %d) = %v, %d, want %d", disk, addr, got, err, read)
		}
		if err := a.Corrupt(disk, addr, 0, 1); err != corrupt {
			t.Errorf("Corrupt(%d, %d) = %d, want %d", disk, addr, err, corrupt)
		}
	}
	long := make([]byte, maxBytes+1)
	ok(t, "Fail(1)", a.Fail(1))
	for range 2 {
		asked(0, 4, nil, api.ErrDiskAddr, api.ErrDiskAddr, api.ErrDiskAddr)
		asked(0, -1, long, api.ErrDiskAddr, api.ErrDiskAddr, api.ErrDiskAddr)
		asked(0, 0, long, api.ErrArg, api.OK, api.ErrArg)
		asked(1, 0, []byte("x"), api.ErrDiskDead, api.ErrDiskDead, api.ErrDiskDead)
		asked(1, 4, nil, api.ErrDiskDead, api.ErrDiskDead, api.ErrDiskDead)
		asked(1, -1, long, api.ErrDiskDead, api.ErrDiskDead, api.ErrDiskDead)
		asked(2, 4, long, api.ErrArg, api.ErrArg, api.ErrArg)
		asked(-1, 0, []byte("x"), api.ErrArg, api.ErrArg, api.ErrArg)
		a.CrashAfter(2) // that one is to come changes none of them
	}
	a.CrashAfter(0)
	asked(0, 0, []byte("x"), api.ErrCrashed, api.ErrCrashed, api.ErrArg)
	asked(0, 4, nil, api.ErrCrashed, api.ErrCrashed, api.ErrDiskAddr)
	asked(1, 4, long, api.ErrCrashed, api.ErrCrashed, api.ErrDiskDead)
	asked(2, 4, nil, api.ErrCrashed, api.ErrCrashed, api.ErrArg)
	asked(-1, 0, []byte("x"), api.ErrCrashed, api.ErrCrashed, api.ErrArg)
}
