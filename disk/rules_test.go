package disk_test

import (
	"bytes"
	"maps"
	"math"
	"slices"
	"testing"

	"aumbry/api"
	"aumbry/disk"
)

// R1: a nil disk: ErrArg ahead of all else, or zero values.
func TestNilDisk(t *testing.T) {
	var d *disk.Disk
	for _, addr := range []int{0, 1, -1, maxSectors, math.MinInt, math.MaxInt} {
		for _, b := range [][]byte{nil, {1}, make([]byte, maxBytes+1)} {
			if err := d.Write(addr, b); err != api.ErrArg {
				t.Errorf("Write(%d, %d bytes) = %d", addr, len(b), err)
			}
		}
		if b, err := d.Read(addr); err != api.ErrArg || len(b) != 0 {
			t.Errorf("Read(%d) = %v, %d", addr, b, err)
		}
		if err := d.Corrupt(addr, addr, 1); err != api.ErrArg {
			t.Errorf("Corrupt(%d) = %d", addr, err)
		}
		d.Crash([]int{addr})
	}
	d.Crash(nil)
	d.Fail()
	if d.Dead() {
		t.Error("it is dead")
	}
	d.Replace()
	if err := d.Flush(); err != api.ErrArg {
		t.Errorf("Flush() = %d", err)
	}
	if l, w := d.Lasts(), d.Waits(); len(l) != 0 || len(w) != 0 || d.Dead() {
		t.Errorf("%v, %v, %v", l, w, d.Dead())
	}
}

// R1: a disk that was made by hand has no sectors, and panics at nothing.
func TestHandMadeDisk(t *testing.T) {
	d := &disk.Disk{}
	for range 2 {
		for _, addr := range []int{0, 1, -1, math.MinInt, math.MaxInt} {
			if err := d.Write(addr, []byte("x")); err != api.ErrDiskAddr {
				t.Errorf("Write(%d) = %d", addr, err)
			}
			if b, err := d.Read(addr); err != api.ErrDiskAddr || len(b) != 0 {
				t.Errorf("Read(%d) = %v, %d", addr, b, err)
			}
			if err := d.Corrupt(addr, 0, 1); err != api.ErrDiskAddr {
				t.Errorf("Corrupt(%d) = %d", addr, err)
			}
			d.Crash([]int{addr})
		}
		holds(t, d, 0, nil, nil)
		flushed(t, d)
		d.Crash(nil)
		d.Fail()
		isDead(t, d)
		if err := d.Flush(); err != api.ErrDiskDead {
			t.Errorf("Flush() = %d", err)
		}
		d.Replace()
		holds(t, d, 0, nil, nil)
	}
}

// roomy is a copy of bytes with others on both sides; all of it is told by whole.
func roomy(b []byte) (inner, whole []byte) {
	whole = slices.Concat([]byte{0x71, 0x72}, b, []byte{0xA5, 0x5A, 0x77})
	return whole[2 : 2+len(b)], whole
}

// spoil writes over all that a list holds, spare room too.
func spoil(b []byte, with byte) {
	room := b[:cap(b)]
	for i := range room {
		room[i] = with
	}
}

// R3, R4: what is handed to Write is left as it was, by answers, by errors and by what is told later, and what is changed in it later does not change the disk.
func TestWriteMemory(t *testing.T) {
	for _, length := range []int{0, 1, 2, 15, 16, 17, 100, maxBytes, maxBytes + 1} {
		for _, addr := range []int{1, 4} {
			b, whole := roomy(someBytes(length, length))
			before := slices.Clone(whole)
			d := fresh(t, 4)
			if d.Write(addr, b) == api.OK {
				corrupted(t, d, addr, 0, 0xFF)
				flushed(t, d)
				corrupted(t, d, addr, -1, 0xFF)
				corrupted(t, d, addr, length-1, 0x0F)
				corrupted(t, d, addr, length-1, 0x0F)
				if err := d.Write(addr, b); err != api.OK {
					t.Fatal(err)
				}
			}
			if !bytes.Equal(whole, before) {
				t.Fatalf("what Write(%d, %d bytes) was given has changed", addr, length)
			}
			lasts, waits := d.Lasts(), d.Waits()
			spoil(whole, 0x33)
			if !sameHeld(d.Lasts(), lasts) || !sameHeld(d.Waits(), waits) {
				t.Fatalf("what Write(%d, %d bytes) kept has changed with what was given", addr, length)
			}
		}
	}
}

// sameHeld tells whether two lists hold the same.
func sameHeld(a, b []api.Held) bool {
	return slices.EqualFunc(a, b, func(x, y api.Held) bool { return x.Addr == y.Addr && bytes.Equal(x.B, y.B) })
}

// R4: what Read answers is the caller's: neither changes the other, nor another answer.
func TestReadMemory(t *testing.T) {
	d := fresh(t, 4)
	lasts, waits := sectors{0: "zero", 1: "one"}, sectors{1: "uno", 2: "due"}
	laid(t, d, lasts, waits)
	for addr, want := range []string{"zero", "uno", "due", ""} {
		one, _ := d.Read(addr)
		two, _ := d.Read(addr)
		spoil(one, 0x11)
		if string(two) != want {
			t.Fatalf("two answers of Read(%d) share memory", addr)
		}
		_ = append(two, "more"...)
		spoil(two, 0x22)
		holds(t, d, 4, lasts, waits)
	}
	// Nor does what is told to the disk later change an answer.
	answers := [][]byte{}
	for addr := range 4 {
		b, _ := d.Read(addr)
		answers = append(answers, b)
	}
	for addr := range 3 {
		corrupted(t, d, addr, 0, 0xFF)
	}
	flushed(t, d)
	for addr := range 4 {
		written(t, d, addr, "over")
	}
	d.Crash([]int{0, 1})
	d.Fail()
	for addr, want := range []string{"zero", "uno", "due", ""} {
		if string(answers[addr]) != want {
			t.Fatalf("what Read(%d) answered is %q now", addr, answers[addr])
		}
	}
}

// spoilHeld writes over all that a list of sectors holds, spare room too, one list of bytes behind the other, each of which shares nothing with those behind it.
func spoilHeld(t *testing.T, list []api.Held, want sectors) {
	t.Helper()
	for _, h := range list {
		if string(h.B) != want[h.Addr] {
			t.Fatalf("the bytes at %d share memory with those of a sector ahead", h.Addr)
		}
		spoil(h.B, 0x44)
	}
	room := list[:cap(list)]
	for i := range room {
		room[i] = api.Held{Addr: -7, B: []byte("spoiled")}
	}
}

// R4, P12.4: what Lasts and Waits answer is memory of its own.
func TestHeldMemory(t *testing.T) {
	d := fresh(t, 6)
	lasts, waits := sectors{0: "zero", 1: "same", 2: "same", 5: "five"}, sectors{1: "same", 2: "same", 3: "drei"}
	laid(t, d, lasts, waits)
	for range 2 {
		l, w, l2, w2 := d.Lasts(), d.Waits(), d.Lasts(), d.Waits()
		spoilHeld(t, l, lasts)
		spoilHeld(t, w, waits)
		stand(t, "Lasts", l2, lasts)
		stand(t, "Waits", w2, waits)
		holds(t, d, 6, lasts, waits)
	}
	l, w := d.Lasts(), d.Waits()
	for addr := range 4 {
		corrupted(t, d, addr, 0, 0xFF)
	}
	d.Crash([]int{1})
	corrupted(t, d, 2, 0, 0xFF)
	flushed(t, d)
	written(t, d, 0, "more")
	d.Replace()
	stand(t, "Lasts", l, lasts)
	stand(t, "Waits", w, waits)
}

// R4: what is handed to Crash is neither changed nor kept.
func TestCrashMemory(t *testing.T) {
	d := fresh(t, 4)
	laid(t, d, sectors{0: "a"}, sectors{0: "b", 1: "c", 2: "d"})
	whole := []int{9, 2, 0, 2, -1, 7, 0, 1}
	before := slices.Clone(whole)
	d.Crash(whole[1:5])
	if !slices.Equal(whole, before) {
		t.Fatalf("what Crash was given is %v now", whole)
	}
	want := sectors{0: "b", 2: "d"}
	holds(t, d, 4, want, nil)
	for i := range whole {
		whole[i] = 1
	}
	holds(t, d, 4, want, nil)
}

// R3, R4, R5: neither spare room nor what stands about a list tells.
func TestCapacityDoesNotTell(t *testing.T) {
	for _, length := range []int{0, 1, 5, 100, maxBytes, maxBytes + 1} {
		inner, _ := roomy(someBytes(length, length))
		a, b := fresh(t, 1), fresh(t, 1)
		if x, y := a.Write(0, inner), b.Write(0, slices.Clip(slices.Clone(inner))); x != y {
			t.Fatalf("%d bytes: %d, %d", length, x, y)
		}
		for _, at := range []int{length, -length - 1} {
			if x, y := a.Corrupt(0, at, 9), b.Corrupt(0, at, 9); x != y || !sameHeld(a.Waits(), b.Waits()) {
				t.Fatalf("%d bytes, changed at %d, differ", length, at)
			}
		}
	}
}

// model is a disk by the chapter's words, of texts, which share nothing.
type model struct {
	size         int
	dead         bool
	lasts, waits sectors
}

func newModel(size int) *model {
	return &model{size: size, lasts: sectors{}, waits: sectors{}}
}

// refuses is what P12.1 says of a call at a place.
func (m *model) refuses(addr int) api.Errno {
	if m.dead {
		return api.ErrDiskDead
	}
	if addr < 0 || addr >= m.size {
		return api.ErrDiskAddr
	}
	return api.OK
}

func (m *model) write(addr int, b string) api.Errno {
	if err := m.refuses(addr); err != api.OK {
		return err
	}
	if len(b) < 1 || len(b) > maxBytes {
		return api.ErrArg
	}
	m.waits[addr] = b
	return api.OK
}

func (m *model) flush() api.Errno {
	if m.dead {
		return api.ErrDiskDead
	}
	maps.Copy(m.lasts, m.waits)
	m.waits = sectors{}
	return api.OK
}

func (m *model) crash(keep []int) {
	for addr, b := range m.waits {
		if slices.Contains(keep, addr) {
			m.lasts[addr] = b
		}
	}
	m.waits = sectors{}
}

func (m *model) corrupt(addr, at int, by byte) api.Errno {
	if err := m.refuses(addr); err != api.OK {
		return err
	}
	for _, side := range []sectors{m.waits, m.lasts} {
		if b, has := side[addr]; has {
			side[addr] = changed(b, placeOf(at, len(b)), by)
			return api.OK
		}
	}
	return api.ErrArg
}

func (m *model) anew(dead bool) {
	m.dead, m.lasts, m.waits = dead, sectors{}, sectors{}
}

// as asks a disk for all that the model tells.
func (m *model) as(t *testing.T, d *disk.Disk) {
	t.Helper()
	if m.dead {
		isDead(t, d)
		return
	}
	holds(t, d, m.size, m.lasts, m.waits)
}

// step tells a disk and its model one thing, which hangs on the numbers drawn.
func (m *model) step(d *disk.Disk, draw func(int) int) (got, want api.Errno) {
	addr := draw(m.size+2) - 1
	switch kind := draw(20); kind {
	case 0:
		return d.Flush(), m.flush()
	case 1, 2:
		keep := make([]int, draw(2*m.size))
		for i := range keep {
			keep[i] = draw(m.size+4) - 2
		}
		d.Crash(keep)
		m.crash(keep)
	case 3:
		if draw(4) == 0 {
			d.Fail()
			m.anew(true)
		}
	case 4:
		if m.dead || draw(10) == 0 {
			d.Replace()
			m.anew(false)
		}
	case 5, 6, 7, 8:
		at, by := draw(60)-30, byte(draw(256))
		return d.Corrupt(addr, at, by), m.corrupt(addr, at, by)
	default:
		b := someBytes(draw(1000), draw(9))
		return d.Write(addr, b), m.write(addr, string(b))
	}
	return api.OK, api.OK
}

// P12.1 to P12.5: long runs of calls of all kinds, held against the chapter's words behind each of them.
func TestRunsOfCalls(t *testing.T) {
	for seed := range 150 {
		size := 1 + seed%7
		d, m := fresh(t, size), newModel(size)
		x := uint32(seed)*2654435761 + 99
		draw := func(n int) int {
			x ^= x << 13
			x ^= x >> 17
			x ^= x << 5
			return int(x>>3) % n
		}
		for i := range 300 {
			if got, want := m.step(d, draw); got != want {
				t.Fatalf("seed %d, step %d: %d, want %d", seed, i, got, want)
			}
			m.as(t, d)
		}
	}
}
