package array_test

import (
	"bytes"
	"maps"
	"math"
	"slices"
	"testing"

	"aumbry/api"
	"aumbry/array"
)

// R1: a nil array: ErrArg ahead of all else, or zero values.
func TestNilArray(t *testing.T) {
	var a *array.Array
	for _, n := range []int{0, 1, -1, maxDisks, maxSectors, math.MinInt, math.MaxInt} {
		a.CrashAfter(n)
		noSuchDisk(t, a, n, api.ErrArg)
		if err := a.Write(0, n, []byte("x")); err != api.ErrArg {
			t.Errorf("Write(0, %d) = %d", n, err)
		}
		if b, err := a.Read(0, n); err != api.ErrArg || len(b) != 0 {
			t.Errorf("Read(0, %d) = %v, %d", n, b, err)
		}
		if err := a.Corrupt(0, n, n, 1); err != api.ErrArg {
			t.Errorf("Corrupt(0, %d) = %d", n, err)
		}
		a.Restart([][]int{{n}})
		if err := a.Flush(); err != api.ErrArg {
			t.Errorf("Flush() = %d", err)
		}
		if a.Down() || len(a.Live()) != 0 || len(a.Births()) != 0 {
			t.Errorf("%v, %v, %v", a.Down(), a.Live(), a.Births())
		}
	}
	a.Restart(nil)
}

// R1: an array that was made by hand has no disks, and panics at nothing.
func TestHandMadeArray(t *testing.T) {
	a := &array.Array{}
	for range 2 {
		for _, n := range []int{0, 1, -1, math.MinInt, math.MaxInt} {
			a.CrashAfter(-1)
			noSuchDisk(t, a, n, api.ErrArg)
			a.CrashAfter(1)
			noSuchDisk(t, a, n, api.ErrArg)
			ok(t, "Flush()", a.Flush())
			told(t, a, false)
			a.CrashAfter(0)
			noSuchDisk(t, a, n, api.ErrCrashed)
			if err := a.Flush(); err != api.ErrCrashed {
				t.Errorf("Flush() = %d", err)
			}
			told(t, a, true)
			a.Restart([][]int{{n}, {0}})
			told(t, a, false)
			a.Restart(nil)
		}
	}
}

// Two arrays are two: what one is told the other does not tell.
func TestTwoArrays(t *testing.T) {
	a, want := full(t, false)
	b := fresh(t, 2, 4)
	written(t, b, 1, 1, "b")
	ok(t, "Fail(0)", b.Fail(0))
	b.CrashAfter(0)
	holds(t, a, 4, want...)
	b.Restart([][]int{nil, {1}})
	holds(t, b, 4, side{dead: true, births: 1}, side{lasts: sectors{1: "b"}})
	a.CrashAfter(1)
	written(t, b, 1, 2, "c")
	holds(t, a, 4, want...)
	written(t, a, 2, 3, "d")
	holds(t, b, 4, side{dead: true, births: 1}, side{lasts: sectors{1: "b"}, waits: sectors{2: "c"}})
}

// R3: calls that answer an error leave all as it was, the crash that is to come too.
func TestErrorsChangeNothing(t *testing.T) {
	a, want := full(t, false)
	ok(t, "Fail(0)", a.Fail(0))
	want[0] = side{dead: true, births: 1}
	a.CrashAfter(1)
	for range 3 {
		for _, err := range []api.Errno{a.Write(0, 1, []byte("x")), a.Write(1, 4, []byte("x")), a.Write(1, 1, nil), a.Write(3, 1, []byte("x")), a.Corrupt(0, 1, 0, 1), a.Corrupt(1, 3, 0, 1), a.Corrupt(-1, 0, 0, 1), a.Fail(3), a.Replace(-1)} {
			if err == api.OK {
				t.Fatal("one of them is OK")
			}
		}
		holds(t, a, 4, want...)
	}
	written(t, a, 1, 3, "last")
	want[1].waits[3] = "last"
	told(t, a, true, want...)
}

// spoil writes over all that a list holds, spare room too.
func spoil[E any](list []E, with E) {
	room := list[:cap(list)]
	for i := range room {
		room[i] = with
	}
}

// R4: what is handed to Write is left as it was, spare room too, and what is changed in it later changes no disk.
func TestWriteMemory(t *testing.T) {
	for _, length := range []int{0, 1, 2, 16, 100, maxBytes, maxBytes + 1} {
		whole := slices.Concat([]byte("<<"), someBytes(length, length), []byte(">>>"))
		before := slices.Clone(whole)
		b := whole[2 : 2+length]
		a := fresh(t, 2, 2)
		for i := range 2 {
			if a.Write(i, 1, b) == api.OK {
				ok(t, "Corrupt", a.Corrupt(i, 1, 0, 0xFF))
				ok(t, "Flush()", a.Flush())
				ok(t, "Corrupt", a.Corrupt(i, 1, length-1, 0xFF))
			}
		}
		if !bytes.Equal(whole, before) {
			t.Fatalf("what Write of %d bytes was given has changed", length)
		}
		lasts := []sectors{asSectors(a.Lasts(0)), asSectors(a.Lasts(1))}
		spoil(whole, 0x33)
		holds(t, a, 2, side{lasts: lasts[0]}, side{lasts: lasts[1]})
	}
}

// asSectors are sectors by place, as texts.
func asSectors(list []api.Held) sectors {
	s := sectors{}
	for _, h := range list {
		s[h.Addr] = string(h.B)
	}
	return s
}

// R4: what Restart is given is left as it was, and what is changed in it later changes no disk.
func TestRestartMemory(t *testing.T) {
	a, want := full(t, true)
	inner := [][]int{{9, 2, 1, 7}, {1, 1, -5}, {0, 3, 2, 2}}
	whole := [][]int{{8}, inner[0][1:2], inner[1][:2], inner[2], {6}}
	before := [][]int{{8}, {2}, {1, 1}, {0, 3, 2, 2}, {6}}
	a.Restart(whole[1:4])
	if !slices.EqualFunc(whole, before, slices.Equal[[]int]) || !slices.Equal(inner[0], []int{9, 2, 1, 7}) || !slices.Equal(inner[1], []int{1, 1, -5}) {
		t.Fatalf("what Restart was given is %v, %v now", whole, inner)
	}
	for i, addr := range []int{2, 1, 2} {
		want[i].lasts[addr] = want[i].waits[addr]
		want[i].waits = nil
	}
	holds(t, a, 4, want...)
	for _, list := range inner {
		spoil(list, 1)
	}
	spoil(whole, []int{1, 2})
	holds(t, a, 4, want...)
	// Nor is anything of it kept for a later restart.
	for i := range 3 {
		written(t, a, i, 3, "gone")
	}
	a.Restart(nil)
	holds(t, a, 4, want...)
}

// R4: what is answered is the caller's: neither changes the other, nor another answer.
func TestAnswersMemory(t *testing.T) {
	a, want := full(t, false)
	ok(t, "Fail(2)", a.Fail(2))
	want[2] = side{dead: true, births: 1}
	for range 2 {
		spoil(a.Live(), false)
		spoil(a.Live(), true)
		spoil(a.Births(), -7)
		for disk := range 3 {
			for addr := range 4 {
				b, _ := a.Read(disk, addr)
				spoil(b, 0x11)
			}
			for _, list := range [][]api.Held{a.Lasts(disk), a.Waits(disk)} {
				for _, h := range list {
					spoil(h.B, 0x22)
				}
				spoil(list, api.Held{Addr: -7, B: []byte("spoiled")})
			}
		}
		holds(t, a, 4, want...)
	}
}

// R4: what is told later changes no answer, and no answer another one.
func TestAnswersStay(t *testing.T) {
	a, want := full(t, false)
	live, births, lasts, waits := a.Live(), a.Births(), a.Lasts(1), a.Waits(1)
	b, _ := a.Read(1, 0)
	c, _ := a.Read(1, 0)
	spoil(a.Lasts(1), api.Held{})
	spoil(c, 0x44)
	ok(t, "Corrupt", a.Corrupt(1, 0, 0, 0xFF))
	ok(t, "Corrupt", a.Corrupt(1, 1, 0, 0xFF))
	written(t, a, 1, 2, "over")
	ok(t, "Flush()", a.Flush())
	ok(t, "Fail(1)", a.Fail(1))
	a.Restart(nil)
	if !slices.Equal(live, []bool{true, true, true}) || !slices.Equal(births, []int{0, 0, 0}) || string(b) != want[1].lasts[0] {
		t.Fatalf("%v, %v, %q", live, births, b)
	}
	stand(t, "Lasts", 1, lasts, want[1].lasts)
	stand(t, "Waits", 1, waits, want[1].waits)
}

// model is an array by the chapter's words, of texts, which share nothing.
type model struct {
	size         int
	sides        []side
	coming, down bool
	left         int
}

func newModel(disks, size int) *model {
	m := &model{size: size, sides: make([]side, disks)}
	for i := range m.sides {
		m.sides[i] = side{lasts: sectors{}, waits: sectors{}}
	}
	return m
}

func (m *model) crashAfter(writes int) {
	if m.down {
		return
	}
	m.coming, m.left = writes >= 0, writes
	m.down = m.coming && m.left == 0
}

// refuses is what keeps a place of a disk from being written and changed.
func (m *model) refuses(disk, addr int) api.Errno {
	if disk < 0 || disk >= len(m.sides) {
		return api.ErrArg
	}
	_, err := m.sides[disk].read(addr, m.size)
	return err
}

func (m *model) write(disk, addr int, b string) api.Errno {
	if m.down {
		return api.ErrCrashed
	}
	if err := m.refuses(disk, addr); err != api.OK {
		return err
	}
	if len(b) < 1 || len(b) > maxBytes {
		return api.ErrArg
	}
	m.sides[disk].waits[addr] = b
	if m.coming {
		m.left--
		m.down = m.left == 0
	}
	return api.OK
}

func (m *model) flush() api.Errno {
	if m.down {
		return api.ErrCrashed
	}
	for i := range m.sides {
		maps.Copy(m.sides[i].lasts, m.sides[i].waits)
		m.sides[i].waits = sectors{}
	}
	return api.OK
}

func (m *model) restart(keep [][]int) {
	for i := range m.sides {
		for addr, b := range m.sides[i].waits {
			if i < len(keep) && slices.Contains(keep[i], addr) {
				m.sides[i].lasts[addr] = b
			}
		}
		m.sides[i].waits = sectors{}
	}
	m.down, m.coming = false, false
}

func (m *model) anew(disk int, dead bool) api.Errno {
	if disk < 0 || disk >= len(m.sides) {
		return api.ErrArg
	}
	m.sides[disk] = side{lasts: sectors{}, waits: sectors{}, dead: dead, births: m.sides[disk].births + 1}
	return api.OK
}

// corrupt changes a byte: at is not below 0 here.
func (m *model) corrupt(disk, addr, at int, by byte) api.Errno {
	if err := m.refuses(disk, addr); err != api.OK {
		return err
	}
	for _, stands := range []sectors{m.sides[disk].waits, m.sides[disk].lasts} {
		if b, has := stands[addr]; has {
			c := []byte(b)
			c[at%len(c)] ^= by
			stands[addr] = string(c)
			return api.OK
		}
	}
	return api.ErrArg
}

// as asks an array for all that the model tells.
func (m *model) as(t *testing.T, a *array.Array) {
	t.Helper()
	if m.down {
		isDown(t, a, len(m.sides), m.size, m.sides...)
		return
	}
	holds(t, a, m.size, m.sides...)
}

// step tells an array and its model one thing, which hangs on the numbers drawn.
func (m *model) step(a *array.Array, draw func(int) int) (got, want api.Errno) {
	disk, addr := draw(len(m.sides)+2)-1, draw(m.size+2)-1
	switch kind := draw(24); kind {
	case 0:
		return a.Flush(), m.flush()
	case 1, 2:
		keep := make([][]int, draw(len(m.sides)+2))
		for i := range keep {
			for range draw(2 * m.size) {
				keep[i] = append(keep[i], draw(m.size+4)-2)
			}
		}
		if m.down || draw(3) == 0 {
			a.Restart(keep)
			m.restart(keep)
		}
	case 3, 4:
		writes := draw(12) - 3
		a.CrashAfter(writes)
		m.crashAfter(writes)
	case 5:
		if draw(4) == 0 {
			return a.Fail(disk), m.anew(disk, true)
		}
	case 6:
		return a.Replace(disk), m.anew(disk, false)
	case 7, 8, 9:
		at, by := draw(60), byte(draw(256))
		return a.Corrupt(disk, addr, at, by), m.corrupt(disk, addr, at, by)
	default:
		b := someBytes(draw(1000), draw(9))
		return a.Write(disk, addr, b), m.write(disk, addr, string(b))
	}
	return api.OK, api.OK
}

// P13.1 to P13.5, R5: long runs of calls of all kinds, held against the chapter's words behind each of them.
func TestRunsOfCalls(t *testing.T) {
	for seed := range 100 {
		disks, size := 1+seed%5, 1+seed%4
		a, m := fresh(t, disks, size), newModel(disks, size)
		x := uint32(seed)*2654435761 + 99
		draw := func(n int) int {
			x ^= x << 13
			x ^= x >> 17
			x ^= x << 5
			return int(x>>3) % n
		}
		for i := range 300 {
			if got, want := m.step(a, draw); got != want {
				t.Fatalf("seed %d, step %d: %d, want %d", seed, i, got, want)
			}
			m.as(t, a)
		}
	}
}
