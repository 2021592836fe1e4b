package array_test

import (
	"testing"

	"aumbry/api"
	"aumbry/array"
)

// full is an array of three disks of four sectors, each with what lasts, what waits above it, and what waits alone; down or not.
func full(t *testing.T, down bool) (*array.Array, []side) {
	t.Helper()
	a := fresh(t, 3, 4)
	want := make([]side, 3)
	for i, name := range []string{"a", "b", "c"} {
		want[i] = side{lasts: sectors{0: "l0" + name, 1: "l1" + name}, waits: sectors{1: "w1" + name, 2: "w2" + name}}
		laid(t, a, i, want[i].lasts, nil)
	}
	ok(t, "Flush()", a.Flush())
	for i, s := range want {
		for addr, b := range s.waits {
			written(t, a, i, addr, b)
		}
	}
	if down {
		a.CrashAfter(0)
	}
	told(t, a, down, want...)
	return a, want
}

// P13.3, P13.4: of each disk that fails, down or not: it is dead, holds nothing, has a birth more, and the others are as they were.
func TestFail(t *testing.T) {
	for _, down := range []bool{false, true} {
		for disk := range 3 {
			a, want := full(t, down)
			ok(t, "Fail", a.Fail(disk))
			want[disk] = side{dead: true, births: 1}
			told(t, a, down, want...)
			// One that is dead fails again: that is a birth more too.
			ok(t, "Fail", a.Fail(disk))
			want[disk].births = 2
			told(t, a, down, want...)
			if down {
				isDown(t, a, 3, 4, want...)
				a.Restart(nil)
				for i := range want {
					want[i].waits = nil
				}
			}
			holds(t, a, 4, want...)
		}
	}
}

// P13.3, P13.4: of each disk that is replaced, dead or not, down or not: it is not dead, holds nothing, has a birth more, and the others are as they were.
func TestReplace(t *testing.T) {
	for _, down := range []bool{false, true} {
		for _, dead := range []bool{false, true} {
			for disk := range 3 {
				a, want := full(t, down)
				want[disk] = side{births: 1}
				if dead {
					ok(t, "Fail", a.Fail(disk))
					want[disk].births = 2
				}
				ok(t, "Replace", a.Replace(disk))
				told(t, a, down, want...)
				ok(t, "Replace", a.Replace(disk))
				want[disk].births++
				told(t, a, down, want...)
				if down {
					isDown(t, a, 3, 4, want...)
					a.Restart([][]int{{0, 1, 2, 3}, {0, 1, 2, 3}, {0, 1, 2, 3}})
					settle(want)
				}
				holds(t, a, 4, want...)
				written(t, a, disk, 3, "new")
				ok(t, "Flush()", a.Flush())
				settle(want)
				want[disk].lasts = sectors{3: "new"}
				holds(t, a, 4, want...)
			}
		}
	}
}

// settle lets all that waits last.
func settle(sides []side) {
	for i := range sides {
		for addr, b := range sides[i].waits {
			sides[i].lasts[addr] = b
		}
		sides[i].waits = nil
	}
}

// P13.4: births are counted of each disk on its own, over restarts.
func TestBirths(t *testing.T) {
	a := fresh(t, 3, 2)
	want := make([]side, 3)
	for i, disk := range []int{2, 0, 2, 2, 1, 2, 0, 2, 1, 1, 1} {
		if want[disk].dead {
			ok(t, "Replace", a.Replace(disk))
		} else {
			ok(t, "Fail", a.Fail(disk))
		}
		want[disk].dead = !want[disk].dead
		want[disk].births++
		holds(t, a, 2, want...)
		if i%3 == 0 {
			a.CrashAfter(0)
			a.Restart(nil)
			holds(t, a, 2, want...)
		}
	}
	for range 1000 {
		ok(t, "Fail", a.Fail(1))
	}
	if births := a.Births()[1]; births != 1004 {
		t.Fatalf("%d births", births)
	}
}

// P13.4: neither writes, flushes, restarts nor changed bytes are births, nor calls that answer an error.
func TestWhatIsNoBirth(t *testing.T) {
	a, want := full(t, false)
	ok(t, "Corrupt", a.Corrupt(1, 1, 0, 0))
	a.Fail(3)
	a.Replace(-1)
	a.Corrupt(1, 9, 0, 1)
	told(t, a, false, want...)
	ok(t, "Flush()", a.Flush())
	a.CrashAfter(1)
	written(t, a, 1, 3, "x")
	a.Restart(nil)
	settle(want)
	holds(t, a, 4, want...)
}

// P13.3: Corrupt is the disk's, of each disk, down or not: what waits is changed where it waits, what lasts where it lasts, and nothing else.
func TestCorrupt(t *testing.T) {
	for _, down := range []bool{false, true} {
		for disk, name := range []string{"a", "b", "c"} {
			a, want := full(t, down)
			ok(t, "Corrupt at 0", a.Corrupt(disk, 0, 0, 0x20))
			want[disk].lasts[0] = "L0" + name
			told(t, a, down, want...)
			ok(t, "Corrupt at 1", a.Corrupt(disk, 1, 3, 0x20))
			want[disk].waits[1] = "W1" + name
			told(t, a, down, want...)
			ok(t, "Corrupt at 2", a.Corrupt(disk, 2, -3, 0x20))
			want[disk].waits[2] = "w2" + string(name[0]^0x20)
			told(t, a, down, want...)
			for _, c := range []struct {
				addr int
				want api.Errno
			}{{3, api.ErrArg}, {4, api.ErrDiskAddr}, {-1, api.ErrDiskAddr}} {
				if err := a.Corrupt(disk, c.addr, 0, 1); err != c.want {
					t.Fatalf("Corrupt(%d, %d) = %d, want %d", disk, c.addr, err, c.want)
				}
			}
			told(t, a, down, want...)
			ok(t, "Fail", a.Fail(disk))
			if x, y := a.Corrupt(disk, 0, 0, 1), a.Corrupt(disk, 4, 0, 1); x != api.ErrDiskDead || y != api.ErrDiskDead {
				t.Fatalf("Corrupt of a dead one: %d, %d", x, y)
			}
			want[disk] = side{dead: true, births: 1}
			told(t, a, down, want...)
		}
	}
}

// P13.3: Fail, Replace and Corrupt neither bring the power nor take it, nor a crash that is to come.
func TestFaultsAndThePower(t *testing.T) {
	a, _ := full(t, false)
	a.CrashAfter(2)
	faults := func() {
		for disk := range 3 {
			ok(t, "Fail", a.Fail(disk))
			ok(t, "Replace", a.Replace(disk))
		}
		a.Corrupt(1, 0, 0, 1)
	}
	faults()
	written(t, a, 0, 0, "one")
	faults()
	if a.Down() {
		t.Fatal("down behind one write of two")
	}
	written(t, a, 1, 0, "two")
	faults()
	if !a.Down() {
		t.Fatal("not down behind two writes")
	}
}

// P13.5: a write to one disk changes no other one, at every disk of the greatest array.
func TestDisksApart(t *testing.T) {
	a := fresh(t, maxDisks, 3)
	want := make([]side, maxDisks)
	for i := range want {
		disk := i * 13 % maxDisks
		b := string(someBytes(i, 1+i))
		written(t, a, disk, i%3, b)
		want[disk].waits = sectors{i % 3: b}
		holds(t, a, 3, want...)
	}
}
