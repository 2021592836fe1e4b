package array_test

import (
	"math"
	"slices"
	"strconv"
	"testing"

	"aumbry/api"
	"aumbry/array"
)

// isDown asks for what one that is down answers to Write, Read and Flush, at any disk and place, and that they leave all as it was.
func isDown(t *testing.T, a *array.Array, disks, size int, want ...side) {
	t.Helper()
	told(t, a, true, want...)
	for disk := -1; disk <= disks; disk++ {
		for addr := -1; addr <= size; addr++ {
			for _, b := range [][]byte{nil, []byte("down"), make([]byte, maxBytes+1)} {
				if err := a.Write(disk, addr, b); err != api.ErrCrashed {
					t.Fatalf("Write(%d, %d, %d bytes) = %d", disk, addr, len(b), err)
				}
			}
			if b, err := a.Read(disk, addr); err != api.ErrCrashed || len(b) != 0 {
				t.Fatalf("Read(%d, %d) = %v, %d", disk, addr, b, err)
			}
		}
	}
	if err := a.Flush(); err != api.ErrCrashed {
		t.Fatalf("Flush() = %d", err)
	}
	told(t, a, true, want...)
}

// writesTillDown is how many writes are OK ahead of a crash, at most so many.
func writesTillDown(t *testing.T, a *array.Array, most int) int {
	t.Helper()
	for i := range most {
		if a.Down() {
			return i
		}
		written(t, a, i%2, i%4, "x")
	}
	return most
}

// P13.1, P13.2: the power goes behind just so many writes: the last of them is done.
func TestCrashAfter(t *testing.T) {
	for writes := range 20 {
		a := fresh(t, 2, 4)
		a.CrashAfter(writes)
		want := []side{{waits: sectors{}}, {waits: sectors{}}}
		for i := range writes {
			b := strconv.Itoa(i)
			told(t, a, false, want...)
			written(t, a, i%2, i%4, b)
			want[i%2].waits[i%4] = b
		}
		isDown(t, a, 2, 4, want...)
	}
}

// P13.1: below 0, the least among them, no crash is to come, nor of one that was to.
func TestCrashAfterBelowNought(t *testing.T) {
	for _, writes := range []int{-1, -2, -256, math.MinInt32, -1 << 32, math.MinInt, math.MinInt + 1} {
		a := fresh(t, 2, 4)
		a.CrashAfter(writes)
		if n := writesTillDown(t, a, 300); n != 300 || a.Down() {
			t.Fatalf("CrashAfter(%d): down behind %d writes", writes, n)
		}
		a.CrashAfter(2)
		written(t, a, 0, 0, "x")
		a.CrashAfter(writes)
		if n := writesTillDown(t, a, 300); n != 300 || a.Down() {
			t.Fatalf("CrashAfter(2), CrashAfter(%d): down behind %d writes", writes, n)
		}
	}
}

// P13.1: behind great numbers of writes it is not down yet, the greatest among them.
func TestCrashAfterGreat(t *testing.T) {
	for _, writes := range []int{256, 257, 65536, 65537, math.MaxInt32, 1 << 32, 1<<32 + 1, math.MaxInt - 1, math.MaxInt} {
		a := fresh(t, 2, 4)
		a.CrashAfter(writes)
		if n := writesTillDown(t, a, 255); n != 255 || a.Down() {
			t.Fatalf("CrashAfter(%d): down behind %d writes", writes, n)
		}
	}
	a := fresh(t, 2, 4)
	a.CrashAfter(70000)
	if n := writesTillDown(t, a, 80000); n != 70000 {
		t.Fatalf("CrashAfter(70000): down behind %d writes", n)
	}
}

// P13.1: told twice, the latter holds, more or fewer or none, and what was counted of the first is forgotten.
func TestCrashAfterTwice(t *testing.T) {
	for _, c := range []struct{ first, done, second, want int }{
		{1, 0, 3, 3}, {3, 0, 1, 1}, {3, 2, 3, 3}, {3, 2, 1, 1}, {5, 1, 0, 0}, {5, 0, 0, 0}, {2, 1, 7, 7}, {-1, 3, 2, 2}, {4, 2, -1, 50}, {-1, 0, -2, 50}, {math.MaxInt, 2, 2, 2}, {2, 1, math.MaxInt, 50},
	} {
		a := fresh(t, 2, 4)
		a.CrashAfter(c.first)
		for range c.done {
			written(t, a, 1, 1, "y")
		}
		a.CrashAfter(c.second)
		if n := writesTillDown(t, a, 50); n != c.want {
			t.Errorf("CrashAfter(%d), %d writes, CrashAfter(%d): down behind %d, want %d", c.first, c.done, c.second, n, c.want)
		}
	}
}

// P13.1: of one that is down, at once or by a write, nothing is done: it stays down, and no crash is to come when the power comes.
func TestCrashAfterWhenDown(t *testing.T) {
	for _, writes := range []int{0, 1, 2, 5, -1, math.MinInt, math.MaxInt} {
		for _, atOnce := range []bool{true, false} {
			a := fresh(t, 2, 4)
			laid(t, a, 0, sectors{1: "l"}, nil)
			if atOnce {
				written(t, a, 1, 2, "w")
				a.CrashAfter(0)
			} else {
				a.CrashAfter(1)
				written(t, a, 1, 2, "w")
			}
			for range 3 {
				isDown(t, a, 2, 4, side{lasts: sectors{1: "l"}}, side{waits: sectors{2: "w"}})
				a.CrashAfter(writes)
			}
			a.Restart(nil)
			holds(t, a, 4, side{lasts: sectors{1: "l"}}, side{})
			if n := writesTillDown(t, a, 30); n != 30 || a.Down() {
				t.Fatalf("CrashAfter(%d) of one that is down: down behind %d writes", writes, n)
			}
		}
	}
}

// P13.2: of all calls those writes alone count that are OK.
func TestWhichWritesCount(t *testing.T) {
	a := fresh(t, 3, 4)
	written(t, a, 0, 1, "counts not: no crash is to come")
	ok(t, "Fail(2)", a.Fail(2))
	a.CrashAfter(2)
	for round := range 2 {
		for range 5 {
			counted := []api.Errno{a.Write(3, 0, []byte("x")), a.Write(-1, 0, []byte("x")), a.Write(0, 4, []byte("x")), a.Write(0, -1, []byte("x")),
				a.Write(0, 0, nil), a.Write(0, 0, make([]byte, maxBytes+1)), a.Write(2, 0, []byte("x")), a.Write(2, 4, []byte("x"))}
			if !slices.Equal(counted, []api.Errno{api.ErrArg, api.ErrArg, api.ErrDiskAddr, api.ErrDiskAddr, api.ErrArg, api.ErrArg, api.ErrDiskDead, api.ErrDiskDead}) {
				t.Fatalf("%v", counted)
			}
			ok(t, "Flush()", a.Flush())
			ok(t, "Corrupt(0, 1)", a.Corrupt(0, 1, 0, 1))
			ok(t, "Corrupt(0, 1)", a.Corrupt(0, 1, 0, 1))
			ok(t, "Fail(2)", a.Fail(2))
			ok(t, "Replace(2)", a.Replace(2))
			ok(t, "Fail(2)", a.Fail(2))
			if b, err := a.Read(0, 1); err != api.OK || len(b) == 0 {
				t.Fatalf("Read(0, 1) = %q, %d", b, err)
			}
			a.Lasts(0)
			a.Waits(0)
			a.Live()
			a.Births()
			if a.Down() {
				t.Fatalf("down, behind %d writes of 2", round)
			}
		}
		written(t, a, round, 2, "counts") // one of each disk
	}
	if !a.Down() {
		t.Fatal("not down, behind 2 writes of 2")
	}
}

// P13.2: a write counts whatever stands there, the same bytes too.
func TestSameWritesCount(t *testing.T) {
	a := fresh(t, 2, 4)
	a.CrashAfter(3)
	for i := range 3 {
		if a.Down() {
			t.Fatalf("down behind %d writes of 3", i)
		}
		written(t, a, 1, 1, "same")
	}
	isDown(t, a, 2, 4, side{}, side{waits: sectors{1: "same"}})
}

// P13.3: every choice of what is kept of two disks, each with what lasts, what waits above it, and what waits alone.
func TestRestartKeeps(t *testing.T) {
	for choice := range 1 << 8 {
		a := fresh(t, 2, 4)
		want := make([]side, 2)
		keep := make([][]int, 2)
		for i := range want {
			name := string(rune('a' + i))
			want[i].lasts = sectors{0: "old0" + name, 1: "old1" + name}
			waits := sectors{1: "new1" + name, 2: "new2" + name}
			laid(t, a, i, want[i].lasts, nil)
			ok(t, "Flush()", a.Flush())
			for addr := range 4 {
				if choice>>(4*i+addr)&1 != 0 {
					keep[i] = append(keep[i], addr)
				}
			}
			for _, addr := range keep[i] {
				if b, waiting := waits[addr]; waiting {
					want[i].lasts[addr] = b
				}
			}
		}
		for i := range want {
			name := string(rune('a' + i))
			written(t, a, i, 1, "new1"+name)
			written(t, a, i, 2, "new2"+name)
		}
		if choice%2 == 0 {
			a.CrashAfter(0)
		}
		a.Restart(keep)
		holds(t, a, 4, want...)
	}
}

// P13.3: fewer lists than disks, more, none, empty ones, and such as name places twice, or that are not.
func TestRestartLists(t *testing.T) {
	for _, c := range []struct {
		keep [][]int
		kept [3][]int
	}{
		{nil, [3][]int{}},
		{[][]int{}, [3][]int{}},
		{[][]int{nil, {}, nil}, [3][]int{}},
		{[][]int{{1}}, [3][]int{{1}, nil, nil}},
		{[][]int{nil, {2}}, [3][]int{nil, {2}, nil}},
		{[][]int{{1}, nil, {2}}, [3][]int{{1}, nil, {2}}},
		{[][]int{{1, 2}, {1, 2}, {1, 2}, {1, 2}, {1, 2}}, [3][]int{{1, 2}, {1, 2}, {1, 2}}},
		{[][]int{nil, nil, nil, {1, 2}}, [3][]int{}},
		{[][]int{{2, 2, 2}, {0, 3}, {3, 2, 1, 0}}, [3][]int{{2}, nil, {1, 2}}},
		{[][]int{{-1, 4, math.MinInt, math.MaxInt, 1<<32 + 1}, {5, 1, -2}, {-3, -2}}, [3][]int{nil, {1}, nil}},
	} {
		a := fresh(t, 3, 4)
		want := make([]side, 3)
		for i := range want {
			want[i].lasts = sectors{1: "old", 3: "rest"}
			laid(t, a, i, want[i].lasts, nil)
		}
		ok(t, "Flush()", a.Flush())
		for i := range want {
			name := strconv.Itoa(i)
			written(t, a, i, 1, "one"+name)
			written(t, a, i, 2, "two"+name)
			for _, addr := range c.kept[i] {
				want[i].lasts[addr] = []string{"", "one", "two"}[addr] + name
			}
		}
		a.CrashAfter(0)
		a.Restart(c.keep)
		holds(t, a, 4, want...)
		ok(t, "Flush()", a.Flush())
		a.Restart([][]int{{0, 1, 2, 3}, {0, 1, 2, 3}, {0, 1, 2, 3}})
		holds(t, a, 4, want...)
	}
}

// P13.3: behind a restart, of one that was down or not, no crash is to come, and the next that is told counts from then on.
func TestRestartForgetsTheCrash(t *testing.T) {
	for _, c := range []struct{ writes, done int }{{0, 0}, {1, 1}, {3, 3}, {1, 0}, {3, 2}, {5, 1}, {-1, 2}, {math.MaxInt, 3}} {
		a := fresh(t, 2, 4)
		a.CrashAfter(c.writes)
		for range c.done {
			written(t, a, 0, 0, "x")
		}
		a.Restart(nil)
		holds(t, a, 4, side{}, side{})
		if n := writesTillDown(t, a, 30); n != 30 || a.Down() {
			t.Fatalf("CrashAfter(%d), %d writes, Restart: down behind %d", c.writes, c.done, n)
		}
		a.CrashAfter(2)
		if n := writesTillDown(t, a, 30); n != 2 {
			t.Fatalf("CrashAfter(2) behind a restart: down behind %d", n)
		}
		a.Restart(nil)
		a.Restart(nil)
		holds(t, a, 4, side{}, side{})
	}
}

// P13.3: a disk that is dead when the power comes is dead, and holds nothing, whatever is kept of it.
func TestRestartWithDeadDisks(t *testing.T) {
	a := fresh(t, 3, 4)
	for i := range 3 {
		laid(t, a, i, nil, sectors{1: "w"})
	}
	written(t, a, 0, 2, "v")
	ok(t, "Fail(1)", a.Fail(1))
	a.CrashAfter(0)
	ok(t, "Fail(2)", a.Fail(2))
	a.Restart([][]int{{2}, {1}, {1}})
	holds(t, a, 4, side{lasts: sectors{1: "w", 2: "v"}}, side{dead: true, births: 1}, side{dead: true, births: 1})
	ok(t, "Replace(1)", a.Replace(1))
	a.Restart([][]int{{2}, {1}, {1}})
	holds(t, a, 4, side{lasts: sectors{1: "w", 2: "v"}}, side{births: 2}, side{dead: true, births: 1})
}

// P13.5: behind a crash nothing is read or written till the power comes, and behind that all goes on.
func TestNothingTillThePowerComes(t *testing.T) {
	a := fresh(t, 2, 3)
	laid(t, a, 0, sectors{0: "a"}, nil)
	a.CrashAfter(2)
	written(t, a, 1, 1, "b")
	written(t, a, 0, 0, "c")
	before := []side{{lasts: sectors{0: "a"}, waits: sectors{0: "c"}}, {waits: sectors{1: "b"}}}
	for range 3 {
		isDown(t, a, 2, 3, before...)
	}
	a.Restart([][]int{{}, {1}})
	holds(t, a, 3, side{lasts: sectors{0: "a"}}, side{lasts: sectors{1: "b"}})
	written(t, a, 0, 0, "d")
	ok(t, "Flush()", a.Flush())
	holds(t, a, 3, side{lasts: sectors{0: "d"}}, side{lasts: sectors{1: "b"}})
}
