package vote_test

import (
	"math"
	"testing"

	"aumbry/api"
	"aumbry/vote"
)

// P17.2: what lies on each disk behind a Write, at all numbers that the chapter names, and what is read then.
func TestWriteLays(t *testing.T) {
	for _, disks := range []int{1, 2, 3, maxDisks} {
		for _, place := range []int{0, 1, maxSectors - 1} {
			for _, epoch := range []int{0, 1, 1 << 8, 1 << 16, 1 << 24, maxNumber} {
				for _, data := range []string{"", "a", "\x00", someBytes(100, epoch), someBytes(maxData, epoch)} {
					a := fresh(t, disks, maxSectors)
					want := snapshot(a)
					for i := range want.sides {
						want.sides[i].waits[place] = framed(place, epoch, data)
					}
					writes(t, a, place, epoch, data, disks, api.OK)
					holds(t, "behind Write", a, want)
					reads(t, a, []bool{true}, place, something(epoch, data, disks, true))
					mends(t, a, place, 0, api.OK)
					holds(t, "behind Mend", a, want)
				}
			}
		}
	}
}

// P17.2: a Write over another, of a lesser, the same or a greater epoch: what lasted lasts beneath till it is flushed.
func TestWriteOver(t *testing.T) {
	for _, epoch := range []int{0, 4, 5, 6, maxNumber} {
		a := fresh(t, 3, 4)
		writes(t, a, 2, 5, "old", 3, api.OK)
		flushes(t, a)
		want := snapshot(a)
		writes(t, a, 2, epoch, "next", 3, api.OK)
		for i := range want.sides {
			want.sides[i].waits[2] = framed(2, epoch, "next")
		}
		holds(t, "behind a Write over another", a, want)
		reads(t, a, nil, 2, something(epoch, "next", 3, false))
		a.Restart(nil)
		reads(t, a, nil, 2, something(5, "old", 3, false))
	}
}

// P17.2: what is written waits, and lasts behind a flush.
func TestWriteWaits(t *testing.T) {
	a := fresh(t, 2, 4)
	writes(t, a, 1, 5, "a", 2, api.OK)
	a.Restart(nil)
	reads(t, a, nil, 1, nothing(false))
	writes(t, a, 1, 5, "a", 2, api.OK)
	flushes(t, a)
	a.Restart(nil)
	reads(t, a, nil, 1, something(5, "a", 2, false))
}

// P17.2: disks are dead, any of them, all of them: the others take it, and are counted.
func TestWriteDead(t *testing.T) {
	for disks := 1; disks <= 5; disks++ {
		for bits := range 1 << disks {
			a := fresh(t, disks, 4)
			gone := chosen(bits, disks)
			for _, disk := range gone {
				a.Fail(disk)
			}
			want := snapshot(a)
			for i := range want.sides {
				if want.sides[i].live {
					want.sides[i].waits[3] = framed(3, 9, "a")
				}
			}
			took := disks - len(gone)
			writes(t, a, 3, 9, "a", took, api.OK)
			holds(t, "behind a Write while disks are dead", a, want)
			if took == 0 {
				reads(t, a, nil, 3, nothing(false))
			} else {
				reads(t, a, nil, 3, something(9, "a", took, false))
			}
			mends(t, a, 3, 0, api.OK)
			holds(t, "behind a Mend of what all say", a, want)
		}
	}
}

// P17.2: the power goes at each write, while any disks are dead: ErrCrashed and 0 if a disk is left then, a dead one too; what was written is there.
func TestWriteCrash(t *testing.T) {
	const disks = 4
	for bits := range 1 << disks {
		for left := range disks + 2 {
			a := fresh(t, disks, 4)
			writes(t, a, 1, 5, "old", disks, api.OK)
			flushes(t, a)
			for _, disk := range chosen(bits, disks) {
				a.Fail(disk)
			}
			want := snapshot(a)
			a.CrashAfter(left)
			took, answer, more := 0, api.OK, left
			for i := range want.sides {
				if more == 0 {
					took, answer = 0, api.ErrCrashed
					break
				}
				if want.sides[i].live {
					want.sides[i].waits[1] = framed(1, 6, "next")
					took++
					more--
				}
			}
			want.down = more == 0
			writes(t, a, 1, 6, "next", took, answer)
			holds(t, "behind a Write that the power cut", a, want)
		}
	}
}

// P17.2, P17.1: of a Write that was cut some sectors last: the greater epoch is told if one of them does, and Mend brings it to all.
func TestWriteCrashRead(t *testing.T) {
	const disks = 4
	for left := 1; left < disks; left++ {
		for bits := range 1 << disks {
			a := fresh(t, disks, 4)
			writes(t, a, 1, 5, "old", disks, api.OK)
			flushes(t, a)
			a.CrashAfter(left)
			writes(t, a, 1, 6, "next", 0, api.ErrCrashed)
			keep, kept := make([][]int, disks), 0
			for _, disk := range chosen(bits, disks) {
				keep[disk] = []int{1}
				if disk < left {
					kept++
				}
			}
			a.Restart(keep)
			want := something(5, "old", disks, true)
			if kept > 0 {
				want = something(6, "next", kept, true)
			}
			reads(t, a, []bool{true}, 1, want)
			mends(t, a, 1, disks-want.Copies, api.OK)
			want.Copies = disks
			reads(t, a, []bool{true}, 1, want)
		}
	}
}

// P17.2: no array: ErrArg, at all numbers.
func TestWriteNoArray(t *testing.T) {
	for _, place := range []int{-1, 0, 1, maxNumber, maxNumber + 1} {
		for _, epoch := range []int{-1, 0, maxNumber, maxNumber + 1} {
			for _, data := range []string{"", "a", someBytes(maxData+1, 1)} {
				if n, err := vote.Write(nil, place, epoch, []byte(data)); n != 0 || err != api.ErrArg {
					t.Fatalf("Write(none, %d, %d, %d bytes) = %d, %d", place, epoch, len(data), n, err)
				}
			}
		}
	}
}

// P17.2: numbers and data that may not be: sector.Pack's error, ahead of the power that is gone and of disks that are dead; nothing is written.
func TestWriteWrong(t *testing.T) {
	whole := someBytes(maxData, 1)
	a := fresh(t, 3, 4)
	writes(t, a, 1, 5, "a", 3, api.OK)
	for _, left := range []int{-1, 1, 0} {
		a.CrashAfter(left)
		before := snapshot(a)
		for _, n := range []int{-1, -2, maxNumber + 1, 1 << 32, 1<<32 + 1, -1 << 32, math.MinInt, math.MaxInt} {
			writes(t, a, n, 6, "b", 0, api.ErrArg)
			writes(t, a, 1, n, "b", 0, api.ErrArg)
			writes(t, a, n, n, "", 0, api.ErrArg)
			writes(t, a, 4, n, "b", 0, api.ErrArg)
			writes(t, a, n, 6, whole+"b", 0, api.ErrArg)
		}
		for _, data := range []string{whole + "b", whole + whole} {
			writes(t, a, 1, 6, data, 0, api.ErrArg)
			writes(t, a, 0, 0, data, 0, api.ErrArg)
		}
		holds(t, "behind a Write that may not be", a, before)
	}
	a = fresh(t, 3, 4)
	for disk := range 3 {
		a.Fail(disk)
	}
	writes(t, a, 1, -1, "b", 0, api.ErrArg)
	writes(t, a, 1, 5, "b", 0, api.OK)
}

// P17.2: a place that no disk has, though a sector may have it: no disk takes it, and that is no error; ErrCrashed, if the power is gone.
func TestWriteBeyond(t *testing.T) {
	for _, size := range []int{1, 4, maxSectors} {
		a := fresh(t, 3, size)
		writes(t, a, size-1, 5, "a", 3, api.OK)
		a.Fail(1)
		a.CrashAfter(1)
		before := snapshot(a)
		for _, place := range []int{size, size + 1, maxNumber} {
			writes(t, a, place, 6, "b", 0, api.OK)
			holds(t, "behind a Write beyond the disks", a, before)
		}
		a.CrashAfter(0)
		before = snapshot(a)
		for _, place := range []int{0, size - 1, size, maxNumber} {
			writes(t, a, place, 6, "b", 0, api.ErrCrashed)
			holds(t, "behind a Write without power", a, before)
		}
	}
}
