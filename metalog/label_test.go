package metalog_test

import (
	"math"
	"slices"
	"testing"

	"aumbry/api"
	"aumbry/array"
	"aumbry/metalog"
)

// labelledSide makes a side's label last, if it is not dead.
func (s shot) labelledSide(disk int) {
	if s.sides[disk].live {
		s.sides[disk].lasts[0] = labelled()
	}
}

// P18.1: the label is written to just the disks that are named, and lasts; whichever are dead are passed over.
func TestLabel(t *testing.T) {
	const disks = 4
	for bits := range 1 << disks {
		for dead := range 1 << disks {
			a := fresh(t, disks, 8)
			for _, disk := range chosen(dead, disks) {
				a.Fail(disk)
			}
			want := snapshot(a)
			know := make([]bool, disks)
			for _, disk := range chosen(bits, disks) {
				want.labelledSide(disk)
				know[disk] = want.sides[disk].live
			}
			labels(t, a, chosen(bits, disks), api.OK)
			holds(t, "behind Label", a, want)
			knows(t, a, know...)
			a.Restart(nil)
			holds(t, "behind Label and a crash", a, want)
		}
	}
}

// P18.1: disks that there are not, ones named twice, in any order, and none: the others are labelled all the same.
func TestLabelLists(t *testing.T) {
	for _, list := range [][]int{
		nil, {}, {0}, {2, 0}, {1, 1}, {2, 1, 2, 2}, {-1}, {3}, {-1, 0}, {3, 1, 32}, {0, math.MinInt, 2, math.MaxInt, 1 << 32},
		{maxNumber, 0, 1, 2, 3, 4, 5, 2, 1, 0}, {1 << 32, 1<<32 + 1}, {-1, -1, -1},
	} {
		for _, size := range []int{1, 8, 4096} {
			a := fresh(t, 3, size)
			want := snapshot(a)
			know := make([]bool, 3)
			for _, disk := range list {
				if disk >= 0 && disk < 3 {
					want.labelledSide(disk)
					know[disk] = true
				}
			}
			before := slices.Clone(list)
			labels(t, a, list, api.OK)
			holds(t, "behind Label", a, want)
			knows(t, a, know...)
			if !slices.Equal(list, before) {
				t.Fatalf("the list is %v now, was %v", list, before)
			}
		}
	}
}

// P18.1: whatever waits is flushed, on all disks that are not dead, also where no disk is named.
func TestLabelFlushes(t *testing.T) {
	for _, list := range [][]int{nil, {1}, {5}, {0}} {
		a := fresh(t, 3, 8)
		a.Fail(0)
		lays(t, a, 1, 3, "one")
		lays(t, a, 2, 4, "other")
		lays(t, a, 2, 0, "no label")
		want := snapshot(a)
		for disk := range 3 {
			want.sides[disk].lasts, want.sides[disk].waits = want.sides[disk].waits, want.sides[disk].lasts
		}
		if slices.Contains(list, 1) {
			want.labelledSide(1)
		}
		labels(t, a, list, api.OK)
		holds(t, "behind Label", a, want)
	}
}

// P18.1: what lay at the place is written over, a label too; no other place is touched.
func TestLabelOver(t *testing.T) {
	for _, elder := range append(noLabels(), labelled()) {
		a := fresh(t, 2, 8)
		lays(t, a, 0, 0, elder)
		lays(t, a, 1, 0, elder)
		lays(t, a, 0, 1, "next to it")
		flushes(t, a)
		want := snapshot(a)
		want.labelledSide(0)
		labels(t, a, []int{0}, api.OK)
		holds(t, "behind Label", a, want)
		knows(t, a, true, elder == labelled())
	}
}

// P18.1: the power goes at each write of a Label, with disks that are dead, that are not there and that are named twice: what was written waits, nothing was flushed, and ErrCrashed is told.
func TestLabelCrash(t *testing.T) {
	for _, list := range [][]int{nil, {0}, {0, 1, 2, 3}, {3, 2, 1, 0}, {1, 1, 1}, {-1, 0, 4, 1, 0}, {2}, {0, 2}, {2, 2, 4}} {
		for dead := range 1 << 4 {
			for left := range 7 {
				a := fresh(t, 4, 8)
				laysAll(t, a, 0, 0, "elder")
				flushes(t, a)
				lays(t, a, 3, 5, "waits")
				for _, disk := range chosen(dead, 4) {
					a.Fail(disk)
				}
				a.CrashAfter(left)
				if left == 0 {
					left = -1
				}
				asLabels(t, a, modelOf(a, 8, left), list)
			}
		}
	}
}

// P18.1: the same in plain numbers: a Label of three disks needs more than three writes, lest the flush be cut.
func TestLabelCrashPlain(t *testing.T) {
	for left := range 5 {
		a := fresh(t, 3, 8)
		a.CrashAfter(left)
		want := snapshot(a)
		for disk := range min(left, 3) {
			want.sides[disk].waits[0] = labelled()
		}
		if left <= 3 {
			want.down = true
			labels(t, a, upTo(3), api.ErrCrashed)
			holds(t, "behind a Label that was cut", a, want)
			a.Restart([][]int{{0}, {0}})
			knows(t, a, left >= 1, left >= 2, false)
			continue
		}
		labels(t, a, upTo(3), api.OK)
		a.Restart(nil)
		knows(t, a, true, true, true)
	}
}

// P18.1: the power is gone: ErrCrashed, whatever is named, also nothing; nothing is written, and nothing flushed.
func TestLabelDown(t *testing.T) {
	for _, list := range [][]int{nil, {0}, {1}, {-1}, {2}, {0, 1}} {
		a := fresh(t, 2, 8)
		lays(t, a, 0, 3, "waits")
		a.Fail(1)
		a.CrashAfter(0)
		before := snapshot(a)
		labels(t, a, list, api.ErrCrashed)
		holds(t, "behind a Label without power", a, before)
	}
}

// P18.1: no array: ErrArg.
func TestLabelNoArray(t *testing.T) {
	for _, list := range [][]int{nil, {}, {0}, {-1}, {math.MinInt, math.MaxInt}} {
		labels(t, nil, list, api.ErrArg)
	}
	if got, err := metalog.Knows(nil); len(got) != 0 || err != api.ErrArg {
		t.Fatalf("Knows(none) = %v, %d", got, err)
	}
}

// noLabels are what may lie at the place of a label and is none.
func noLabels() []string {
	whole := labelled()
	list := []string{
		framed(0, 0, ""), framed(0, 0, "LL"), framed(0, 0, "l"), framed(0, 0, "\x00L"), framed(0, 0, "L\x00"), framed(0, 0, "76"),
		framed(0, 1, "L"), framed(0, maxNumber, "L"), framed(1, 0, "L"), framed(0, 76, ""),
		"L", whole[:12], whole + "L", whole + "\x00", "\x00" + whole, whole[1:], framed(0, 0, recordBytes(put("a", 0))),
	}
	for at := range len(whole) {
		b := []byte(whole)
		b[at] ^= 0x01
		list = append(list, string(b))
	}
	return list
}

// P18.1: a disk knows by just the label, whatever else may lie at that place.
func TestKnowsNoLabel(t *testing.T) {
	for _, b := range noLabels() {
		for disk := range 3 {
			a := fresh(t, 3, 8)
			labels(t, a, upTo(3), api.OK)
			lays(t, a, disk, 0, b)
			want := knowing(3)
			want[disk] = false
			knows(t, a, want...)
			flushes(t, a)
			knows(t, a, want...)
		}
	}
}

// P18.1: a label with a byte changed is none, one changed back is.
func TestKnowsChanged(t *testing.T) {
	for at := range len(labelled()) {
		a := fresh(t, 2, 8)
		labels(t, a, upTo(2), api.OK)
		spoils(t, a, 1, 0, at)
		knows(t, a, true, false)
		spoils(t, a, 1, 0, at)
		knows(t, a, true, true)
	}
}

// P18.1: disks that are dead, or were replaced, do not know; a label at another place is none.
func TestKnowsHurt(t *testing.T) {
	a := fresh(t, 5, 8)
	knows(t, a, false, false, false, false, false)
	labels(t, a, []int{0, 1, 2, 4}, api.OK)
	lays(t, a, 3, 1, labelled())
	lays(t, a, 3, 2, framed(2, 0, "L"))
	knows(t, a, true, true, true, false, true)
	a.Fail(1)
	knows(t, a, true, false, true, false, true)
	a.Replace(2)
	knows(t, a, true, false, false, false, true)
	a.Replace(1)
	knows(t, a, true, false, false, false, true)
	labels(t, a, []int{1}, api.OK)
	knows(t, a, true, true, false, false, true)
	a.Fail(4)
	a.Fail(0)
	knows(t, a, false, true, false, false, false)
	a.Fail(1)
	knows(t, a, false, false, false, false, false)
}

// P18.1: a label that waits is read; behind a crash it is there if it was kept.
func TestKnowsWaits(t *testing.T) {
	a := fresh(t, 3, 8)
	for disk := range 3 {
		lays(t, a, disk, 0, labelled())
	}
	knows(t, a, true, true, true)
	a.Restart([][]int{nil, {0}, {1}})
	knows(t, a, false, true, false)
	lays(t, a, 1, 0, "over it")
	knows(t, a, false, false, false)
	a.Restart(nil)
	knows(t, a, false, true, false)
}

// P18.1: the power is gone: ErrCrashed and no list, whichever disks are dead; Knows brings a crash no nearer.
func TestKnowsDown(t *testing.T) {
	for dead := range 1 << 3 {
		a := fresh(t, 3, 8)
		labels(t, a, upTo(3), api.OK)
		want := knowing(3)
		for _, disk := range chosen(dead, 3) {
			a.Fail(disk)
			want[disk] = false
		}
		a.CrashAfter(1)
		for range 4 {
			knows(t, a, want...)
		}
		a.CrashAfter(0)
		before := snapshot(a)
		if got, err := metalog.Knows(a); len(got) != 0 || err != api.ErrCrashed {
			t.Fatalf("Knows() = %v, %d", got, err)
		}
		holds(t, "behind a Knows without power", a, before)
		a.Restart(nil)
		knows(t, a, want...)
	}
}

// P18.1: as many disks as there may be, and as few.
func TestKnowsManyDisks(t *testing.T) {
	for _, disks := range []int{1, 2, maxDisks} {
		a := fresh(t, disks, 1)
		want := make([]bool, disks)
		for disk := disks - 1; disk >= 0; disk -= 3 {
			labels(t, a, []int{disk}, api.OK)
			want[disk] = true
			knows(t, a, want...)
		}
	}
}

// R1: an array that was made by hand has no disks: none is labelled, and none knows.
func TestHandMadeLabel(t *testing.T) {
	a := &array.Array{}
	labels(t, a, []int{0, 1}, api.OK)
	knows(t, a)
	a.CrashAfter(0)
	labels(t, a, []int{0}, api.ErrCrashed)
	labels(t, a, nil, api.ErrCrashed)
	knows(t, a)
}
