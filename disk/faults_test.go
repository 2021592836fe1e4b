package disk_test

import (
	"math"
	"math/big"
	"slices"
	"testing"

	"aumbry/api"
	"aumbry/disk"
)

// P12.3: Crash with lists of all kinds: sectors that wait, that do not, named twice, or not on the disk.
func TestCrashLists(t *testing.T) {
	outside := badAddrs(6)
	for _, c := range []struct {
		keep []int
		kept []int
	}{
		{nil, nil},
		{[]int{}, nil},
		{[]int{2}, []int{2}},
		{[]int{3}, []int{3}},
		{[]int{3, 2}, []int{2, 3}},
		{[]int{2, 2}, []int{2}},
		{[]int{4, 2, 4, 2, 4}, []int{2, 4}},
		{[]int{0, 1, 5}, nil},
		{[]int{5, 4, 3, 2, 1, 0}, []int{2, 3, 4}},
		{outside, nil},
		{slices.Concat(outside, []int{3, 0}, outside), []int{3}},
		{[]int{-3, -4, 8, 9}, nil},
	} {
		d := fresh(t, 6)
		lasts, waits := sectors{1: "l1", 2: "l2", 3: "l3"}, sectors{2: "w2", 3: "w3", 4: "w4"}
		laid(t, d, lasts, waits)
		d.Crash(c.keep)
		for _, addr := range c.kept {
			lasts[addr] = waits[addr]
		}
		holds(t, d, 6, lasts, nil)
		d.Crash([]int{0, 1, 2, 3, 4, 5})
		flushed(t, d)
		holds(t, d, 6, lasts, nil)
	}
}

// laid writes what lasts, flushes, and writes what waits.
func laid(t *testing.T, d *disk.Disk, lasts, waits sectors) {
	t.Helper()
	for addr, b := range lasts {
		written(t, d, addr, b)
	}
	flushed(t, d)
	for addr, b := range waits {
		written(t, d, addr, b)
	}
}

// P12.3, P12.5: every choice of what lasts, waits, and is kept, of four sectors: each is what lasted, or what was written last.
func TestAllCrashesOfFourSectors(t *testing.T) {
	for choice := range 1 << 12 {
		lasts, waits := sectors{}, sectors{}
		var keep []int
		for addr := range 4 {
			bits := choice >> (3 * addr)
			if bits&1 != 0 {
				lasts[addr] = "old" + string(rune('0'+addr))
			}
			if bits&2 != 0 {
				waits[addr] = "new" + string(rune('0'+addr))
			}
			if bits&4 != 0 {
				keep = append(keep, addr)
			}
		}
		d := fresh(t, 4)
		laid(t, d, lasts, waits)
		d.Crash(keep)
		for _, addr := range keep {
			if b, waiting := waits[addr]; waiting {
				lasts[addr] = b
			}
		}
		holds(t, d, 4, lasts, nil)
	}
}

// P12.5: what is flushed lasts over crashes; of what is written more than once ahead of a crash the last is left, or what lasted.
func TestCrashesInTurn(t *testing.T) {
	d := fresh(t, 3)
	laid(t, d, sectors{0: "a", 1: "b"}, sectors{0: "first", 1: "first"})
	written(t, d, 0, "second")
	written(t, d, 1, "second")
	d.Crash([]int{1})
	holds(t, d, 3, sectors{0: "a", 1: "second"}, nil)
	written(t, d, 0, "third")
	flushed(t, d)
	written(t, d, 0, "fourth")
	d.Crash(nil)
	d.Crash([]int{0})
	holds(t, d, 3, sectors{0: "third", 1: "second"}, nil)
	// What a crash took is not kept by a later one.
	written(t, d, 2, "taken")
	d.Crash([]int{0, 1})
	d.Crash([]int{2})
	holds(t, d, 3, sectors{0: "third", 1: "second"}, nil)
}

// whatDisksHold are disks of four sectors to begin with: without anything, with what waits, with what lasts, with both.
func whatDisksHold(t *testing.T) []*disk.Disk {
	var disks []*disk.Disk
	for choice := range 4 {
		d := fresh(t, 4)
		lasts, waits := sectors{}, sectors{}
		if choice&1 != 0 {
			lasts = sectors{0: "l0", 1: "l1"}
		}
		if choice&2 != 0 {
			waits = sectors{1: "w1", 3: "w3"}
		}
		laid(t, d, lasts, waits)
		disks = append(disks, d)
	}
	return disks
}

// P12.1, P12.3: a disk that failed is dead and holds nothing, and nothing is done on it, till it is replaced.
func TestFail(t *testing.T) {
	for _, d := range whatDisksHold(t) {
		d.Fail()
		isDead(t, d)
		for addr := range 4 {
			if err := d.Write(addr, []byte("x")); err != api.ErrDiskDead {
				t.Fatalf("Write(%d) = %d", addr, err)
			}
			if b, err := d.Read(addr); err != api.ErrDiskDead || len(b) != 0 {
				t.Fatalf("Read(%d) = %v, %d", addr, b, err)
			}
			if err := d.Corrupt(addr, 0, 1); err != api.ErrDiskDead {
				t.Fatalf("Corrupt(%d) = %d", addr, err)
			}
		}
		isDead(t, d)
		if err := d.Flush(); err != api.ErrDiskDead {
			t.Fatalf("Flush() = %d", err)
		}
		isDead(t, d)
		d.Crash([]int{0, 1, 2, 3})
		isDead(t, d)
		d.Crash(nil)
		isDead(t, d)
		d.Fail()
		isDead(t, d)
		d.Replace()
		holds(t, d, 4, nil, nil)
		flushed(t, d)
		holds(t, d, 4, nil, nil)
	}
}

// P12.3: a disk that is replaced, dead or not, is not dead, holds nothing, has as many sectors, and goes on as a new one.
func TestReplace(t *testing.T) {
	for _, d := range whatDisksHold(t) {
		d.Replace()
		holds(t, d, 4, nil, nil)
		flushed(t, d)
		d.Crash([]int{0, 1, 2, 3})
		holds(t, d, 4, nil, nil)
		laid(t, d, sectors{0: "a", 3: "d"}, sectors{3: "e"})
		holds(t, d, 4, sectors{0: "a", 3: "d"}, sectors{3: "e"})
		d.Fail()
		d.Replace()
		d.Replace()
		holds(t, d, 4, nil, nil)
		laid(t, d, sectors{2: "c"}, sectors{1: "b"})
		holds(t, d, 4, sectors{2: "c"}, sectors{1: "b"})
		d.Fail()
		isDead(t, d)
	}
}

// placeOf is the byte that P12.3 means by an at, of n: without a bound on numbers.
func placeOf(at, n int) int {
	a := big.NewInt(int64(at))
	if at < 0 {
		a.Add(a, big.NewInt(1))
		a.Neg(a)
	}
	return int(a.Mod(a, big.NewInt(int64(n))).Int64())
}

// someAts are ats about those that the chapter names, of a sector of n bytes.
func someAts(n int) []int {
	return []int{0, 1, 2, n - 2, n - 1, n, n + 1, 2*n - 1, 2 * n, 7*n + 3, 255, 256, 1 << 31, 1<<31 - 1, 1 << 32, math.MaxInt - 1, math.MaxInt,
		-1, -2, -n + 1, -n, -n - 1, -2 * n, -2*n - 1, -256, -1 << 31, -1<<31 - 1, math.MinInt, math.MinInt + 1, math.MinInt + 2}
}

// changed is a text whose one byte differs.
func changed(b string, place int, by byte) string {
	c := []byte(b)
	c[place] ^= by
	return string(c)
}

// P12.3: which byte Corrupt changes, of what waits and of what lasts, at every kind of at.
func TestCorruptPlaces(t *testing.T) {
	for _, n := range []int{1, 2, 3, 5, 8, 100, 255, 256, 4107, maxBytes} {
		for i, at := range someAts(n) {
			by := byte(i*37 + 1)
			was := string(someBytes(n+i, n))
			now := changed(was, placeOf(at, n), by)
			d := fresh(t, 3)
			written(t, d, 1, was)
			corrupted(t, d, 1, at, by)
			holds(t, d, 3, nil, sectors{1: now})
			corrupted(t, d, 1, at, by)
			holds(t, d, 3, nil, sectors{1: was})
			flushed(t, d)
			corrupted(t, d, 1, at, by)
			holds(t, d, 3, sectors{1: now}, nil)
		}
	}
}

// P12.3: places that are written out, each of its own.
func TestCorruptKnownPlaces(t *testing.T) {
	for _, c := range []struct {
		at   int
		want string
	}{
		{0, "Abc"}, {1, "aBc"}, {2, "abC"}, {3, "Abc"}, {4, "aBc"}, {302, "abC"},
		{-1, "Abc"}, {-2, "aBc"}, {-3, "abC"}, {-4, "Abc"}, {-5, "aBc"},
		// The greatest number is one more than a multiple of 3.
		{math.MaxInt64, "aBc"}, {math.MinInt64, "aBc"}, {math.MinInt64 + 1, "Abc"},
	} {
		d := fresh(t, 1)
		written(t, d, 0, "abc")
		corrupted(t, d, 0, c.at, 0x20)
		reads(t, d, 0, c.want)
	}
}

// P12.3: every by, 0 among them, changes just that byte by just that.
func TestCorruptBy(t *testing.T) {
	for by := range 256 {
		for _, was := range []string{"\x00", "\xFF", "ab\x80", string(someBytes(by, 20))} {
			d := fresh(t, 1)
			written(t, d, 0, was)
			corrupted(t, d, 0, by, byte(by))
			holds(t, d, 1, nil, sectors{0: changed(was, by%len(was), byte(by))})
			flushed(t, d)
			corrupted(t, d, 0, by, byte(by))
			holds(t, d, 1, sectors{0: was}, nil)
		}
	}
}

// P12.3: what waits is changed where it waits, and what lasts beneath, and everything elsewhere, is left.
func TestCorruptWhereItStands(t *testing.T) {
	d := fresh(t, 4)
	laid(t, d, sectors{0: "lasts", 1: "beneath", 2: "same"}, sectors{1: "above", 2: "same", 3: "alone"})
	corrupted(t, d, 1, 0, 0x20)
	corrupted(t, d, 2, 1, 0x20)
	holds(t, d, 4, sectors{0: "lasts", 1: "beneath", 2: "same"}, sectors{1: "Above", 2: "sAme", 3: "alone"})
	corrupted(t, d, 0, 4, 0x20)
	corrupted(t, d, 3, -5, 0x20)
	holds(t, d, 4, sectors{0: "lastS", 1: "beneath", 2: "same"}, sectors{1: "Above", 2: "sAme", 3: "alonE"})
	// What a crash leaves is as it stood: changed where it waited and is kept, else as it lasted.
	d.Crash([]int{2, 3})
	holds(t, d, 4, sectors{0: "lastS", 1: "beneath", 2: "sAme", 3: "alonE"}, nil)
	corrupted(t, d, 2, 0, 0x20)
	written(t, d, 2, "next")
	holds(t, d, 4, sectors{0: "lastS", 1: "beneath", 2: "SAme", 3: "alonE"}, sectors{2: "next"})
	flushed(t, d)
	holds(t, d, 4, sectors{0: "lastS", 1: "beneath", 2: "next", 3: "alonE"}, nil)
}

// P12.3: of sectors with the same bytes, written out of one list, just the one is changed.
func TestCorruptOneOfSame(t *testing.T) {
	d := fresh(t, 3)
	b := []byte("same")
	for addr := range 3 {
		if err := d.Write(addr, b); err != api.OK {
			t.Fatal(err)
		}
	}
	corrupted(t, d, 1, 0, 0x20)
	holds(t, d, 3, nil, sectors{0: "same", 1: "Same", 2: "same"})
	if string(b) != "same" {
		t.Fatalf("what was written is %q", b)
	}
}

// P12.3: ErrArg, if a sector holds nothing, whatever at and by are; nothing is done, and no bytes come out of it.
func TestCorruptNothing(t *testing.T) {
	d := fresh(t, 4)
	laid(t, d, sectors{1: "b"}, sectors{2: "c"})
	for _, at := range someAts(4) {
		for _, by := range []byte{0, 1, 255} {
			for _, addr := range []int{0, 3} {
				if err := d.Corrupt(addr, at, by); err != api.ErrArg {
					t.Fatalf("Corrupt(%d, %d, %d) = %d", addr, at, by, err)
				}
			}
		}
	}
	holds(t, d, 4, sectors{1: "b"}, sectors{2: "c"})
	// What a crash, a failure or a new disk took, is nothing.
	d.Crash(nil)
	if err := d.Corrupt(2, 0, 1); err != api.ErrArg {
		t.Fatalf("behind a crash: %d", err)
	}
	d.Replace()
	if err := d.Corrupt(1, 0, 1); err != api.ErrArg {
		t.Fatalf("of a new disk: %d", err)
	}
	holds(t, d, 4, nil, nil)
}
