package metalog_test

import (
	"math"
	"slices"
	"strings"
	"testing"

	"aumbry/api"
	"aumbry/array"
)

// someObjects are lists that may be saved: none, few, as many and as much as may be, and such whose bytes end about the first part's.
func someObjects() [][]api.Object {
	whole := manyObjects(54, 63, 0)
	whole[0].Stripes = upTo(22)
	less, more := slices.Clone(whole), slices.Clone(whole)
	less[53].Key = less[53].Key[:62]
	more[53].Key += "k"
	return [][]api.Object{
		nil, {}, {object("a", 0, 0)}, {object("a", 5, 1, 3), object("b", 0, maxNumber), object("b\x00", maxNumber, 0, 255, 0)},
		{object("\x00", 7, 7, upTo(maxStripes)...)}, manyObjects(maxObjects, maxKey, 4), manyObjects(maxObjects, 2, 0), manyObjects(63, maxKey, 0),
		whole, less, more,
	}
}

// wrongObjects are lists that may not be saved.
func wrongObjects() [][]api.Object {
	list := [][]api.Object{
		{{}}, {object("", 0, 0)}, {object(strings.Repeat("k", maxKey+1), 0, 0)}, {object("a", -1, 0)}, {object("a", maxNumber+1, 0)},
		{object("a", 0, -1)}, {object("a", 0, maxNumber+1)}, {object("a", 0, math.MinInt)}, {object("a", 0, 0, -1)}, {object("a", 0, 0, maxStripes)},
		{object("a", 0, 0), object("a", 0, 0)}, {object("b", 0, 0), object("a", 0, 0)}, {object("a", 0, 0), object("c", 0, 0), object("b", 0, 0)},
		{object("a", 0, 0, upTo(maxStripes)...), object("b", 0, 0, 0)}, {object("a", 0, 0, make([]int, maxStripes+1)...)},
		manyObjects(maxObjects+1, 2, 0), manyObjects(maxObjects, maxKey, 5),
	}
	return append(list, []api.Object{object("a", 0, 0), {}}, append(manyObjects(maxObjects-1, 2, 0), object("01", 0, 0)))
}

// The lists above are what they say: the bytes of some end just at the first part's end, or a byte ahead or behind.
func TestSomeObjects(t *testing.T) {
	var sizes []int
	for _, l := range someObjects() {
		parts := savedParts(l)
		sizes = append(sizes, len(parts[0])+len(parts[1]))
		if !maySnap(l) {
			t.Errorf("%.80v may not be", l)
		}
	}
	if last := sizes[len(sizes)-3:]; !slices.Equal(last, []int{4096, 4095, 4097}) || sizes[5] <= maxData {
		t.Errorf("sizes are %v", sizes)
	}
	for _, l := range wrongObjects() {
		if maySnap(l) {
			t.Errorf("%.80v may be", l)
		}
	}
}

// saved is what disks tell behind a checkpoint that was saved on them: it lasts, and all that waited lasts too.
func (s shot) saved(v api.Saved) {
	for i, d := range s.sides {
		if !d.live {
			continue
		}
		for place, b := range d.waits {
			d.lasts[place] = b
		}
		clear(d.waits)
		for j, part := range savedParts(v.Objects) {
			s.sides[i].lasts[areaPlace(v.Area, j)] = framed(areaPlace(v.Area, j), v.Epoch, part)
		}
	}
}

// P18.4: what Save writes on each disk, that it lasts, and that it is told.
func TestSaveLays(t *testing.T) {
	for _, g := range []api.Geometry{slots(1), {K: 3, M: 2, Size: 4096, Stripes: 256, Slots: 64, Objects: 1}} {
		for _, disks := range []int{1, 2, 5} {
			for _, l := range someObjects() {
				for _, epoch := range []int{0, 1, 256, 1 << 24, maxBase - 1, maxBase} {
					for area := range 2 {
						a := fresh(t, disks, sizeOf(g))
						want := snapshot(a)
						want.saved(checkpoint(area, epoch, l...))
						saves(t, a, g, checkpoint(area, epoch, l...), api.OK)
						holds(t, "behind Save", a, want)
						latest(t, a, g, knowing(1), checkpoint(area, epoch, l...))
						a.Restart(nil)
						holds(t, "behind Save and a crash", a, want)
					}
				}
			}
		}
	}
}

// P18.4: what lay in the area is written over, more or less than it is; the other area is left; what waits is flushed.
func TestSaveOver(t *testing.T) {
	g := slots(2)
	for _, elder := range someObjects() {
		for _, next := range someObjects() {
			a := fresh(t, 3, sizeOf(g))
			saves(t, a, g, checkpoint(0, 5, elder...), api.OK)
			saves(t, a, g, checkpoint(1, 7, elder...), api.OK)
			lays(t, a, 0, areaPlace(0, 1), "waits there")
			lays(t, a, 1, slotPlace(1), "waits elsewhere")
			lays(t, a, 2, slotPlace(0), "waits in a slot")
			a.Fail(2)
			want := snapshot(a)
			want.saved(checkpoint(0, 6, next...))
			saves(t, a, g, checkpoint(0, 6, next...), api.OK)
			holds(t, "behind Save", a, want)
			latest(t, a, g, nil, checkpoint(1, 7, elder...))
		}
	}
}

// P18.4: any disks are dead: the others take it; all are: ErrDamaged.
func TestSaveDead(t *testing.T) {
	const disks = 4
	g := slots(2)
	for dead := range 1 << disks {
		a := fresh(t, disks, sizeOf(g))
		for _, disk := range chosen(dead, disks) {
			a.Fail(disk)
		}
		s := checkpoint(1, 3, someObjects()[5]...)
		want := snapshot(a)
		want.saved(s)
		told := api.OK
		if dead == 1<<disks-1 {
			told = api.ErrDamaged
		}
		saves(t, a, g, s, told)
		holds(t, "behind a Save while disks are dead", a, want)
	}
}

// P18.4: disks with too few sectors for one part, or for both: ErrDamaged; what was taken stays, and is flushed as all else that waits.
func TestSaveBeyond(t *testing.T) {
	g := slots(3)
	for size := 1; size <= 6; size++ {
		for area := range 2 {
			a := fresh(t, 2, size)
			lays(t, a, 0, 0, "waits")
			s := checkpoint(area, 3, object("a", 0, 0))
			want := snapshot(a)
			want.saved(s)
			told := api.OK
			for i := range 2 {
				if areaPlace(area, i) >= size {
					told = api.ErrDamaged
					for _, d := range want.sides {
						delete(d.lasts, areaPlace(area, i))
					}
				}
			}
			saves(t, a, g, s, told)
			holds(t, "behind a Save beyond the disks", a, want)
		}
	}
}

// P18.4: the power goes at each write, while any disks are dead: what was written waits, nothing was flushed, and ErrCrashed is told, also where the last write is the one.
func TestSaveCrash(t *testing.T) {
	const disks = 3
	g := slots(2)
	for dead := range 1 << disks {
		for left := range 2*disks + 3 {
			for _, l := range [][]api.Object{nil, someObjects()[5]} {
				a := fresh(t, disks, sizeOf(g))
				saves(t, a, g, checkpoint(1, 4, object("elder", 0, 0)), api.OK)
				lays(t, a, 2, 0, "waits")
				for _, disk := range chosen(dead, disks) {
					a.Fail(disk)
				}
				a.CrashAfter(left)
				if left == 0 {
					left = -1
				}
				m := modelOf(a, sizeOf(g), left)
				asSaves(t, a, m, g, checkpoint(1, 6, l...))
				// The power is gone, or the next call's writes bring it down.
				asSaves(t, a, m, g, checkpoint(0, 7, l...))
			}
		}
	}
}

// P18.4: the same in plain numbers: three disks need more than six writes, lest the flush be cut; the first part goes to all disks ahead of the second.
func TestSaveCrashPlain(t *testing.T) {
	g := slots(2)
	for left := range 8 {
		a := fresh(t, 3, sizeOf(g))
		labels(t, a, upTo(3), api.OK)
		saves(t, a, g, checkpoint(0, 0), api.OK)
		want := snapshot(a)
		s := checkpoint(1, 2, someObjects()[5]...)
		a.CrashAfter(left)
		if left > 6 {
			saves(t, a, g, s, api.OK)
			a.Restart(nil)
			latest(t, a, g, knowing(3), s)
			continue
		}
		for i, part := range savedParts(s.Objects) {
			for disk := range 3 {
				if 3*i+disk < left {
					want.sides[disk].waits[areaPlace(1, i)] = framed(areaPlace(1, i), 2, part)
				}
			}
		}
		want.down = true
		saves(t, a, g, s, api.ErrCrashed)
		holds(t, "behind a Save that was cut", a, want)
		a.Restart(nil)
		latest(t, a, g, knowing(3), checkpoint(0, 0))
	}
}

// refusesSave asks Save for an error of what it is given, on disks in any state, which are left as they were.
func refusesSave(t *testing.T, g api.Geometry, s api.Saved, want api.Errno) {
	t.Helper()
	for _, a := range anyDisks(t) {
		before := snapshot(a)
		saves(t, a, g, s, want)
		holds(t, "behind a Save that may not be", a, before)
	}
}

// P18.4: an area, an epoch or objects that may not be: ErrArg, ahead of the power that is gone and of dead disks.
func TestSaveWrong(t *testing.T) {
	g := slots(2)
	for _, area := range []int{-1, 2, 3, -2, 1 << 32, math.MinInt, math.MaxInt} {
		for _, epoch := range []int{0, 5, -1, maxBase, maxBase + 1} {
			refusesSave(t, g, checkpoint(area, epoch), api.ErrArg)
			refusesSave(t, g, checkpoint(area, epoch, api.Object{}), api.ErrArg)
		}
	}
	for _, epoch := range wrongBases() {
		for area := range 2 {
			refusesSave(t, g, checkpoint(area, epoch), api.ErrArg)
			refusesSave(t, g, checkpoint(area, epoch, api.Object{}), api.ErrArg)
		}
	}
	for _, l := range wrongObjects() {
		for area := range 2 {
			refusesSave(t, g, checkpoint(area, 0, l...), api.ErrArg)
			refusesSave(t, g, checkpoint(area, maxBase, l...), api.ErrArg)
		}
	}
}

// P18.4: a geometry that may not be: ErrConfig, ahead of all that may not be but no array.
func TestSaveGeometry(t *testing.T) {
	for _, g := range wrongGeometries() {
		for _, area := range []int{0, 1, 2, -1} {
			for _, epoch := range []int{0, -1, maxBase, maxBase + 1} {
				refusesSave(t, g, checkpoint(area, epoch), api.ErrConfig)
			}
			refusesSave(t, g, checkpoint(area, 0, api.Object{}), api.ErrConfig)
		}
	}
}

// P18.4: no array: ErrArg, ahead of all else.
func TestSaveNoArray(t *testing.T) {
	for _, g := range append(wrongGeometries(), slots(2)) {
		for _, area := range []int{0, 1, 2, -1} {
			for _, epoch := range []int{0, -1, maxBase + 1} {
				saves(t, nil, g, checkpoint(area, epoch), api.ErrArg)
				saves(t, nil, g, checkpoint(area, epoch, api.Object{}), api.ErrArg)
			}
		}
	}
}

// P18.4: nothing is asked of objects but that they may be snapped: there may be more than the geometry has, with stripes and epochs that it has not.
func TestSaveMoreThanTheGeometry(t *testing.T) {
	g := api.Geometry{K: 1, M: 0, Size: 1, Stripes: 1, Slots: 1, Objects: 1}
	a := fresh(t, 1, sizeOf(g))
	s := checkpoint(1, 3, object("a", 9, 50, 7, 7), object("b", 0, maxNumber, 7))
	saves(t, a, g, s, api.OK)
	latest(t, a, g, []bool{true}, s)
	r := put("c", 100, 8, 9)
	appends(t, a, g, 3, 0, r, api.OK)
	replays(t, a, g, nil, 3, r)
}

// R1: an array that was made by hand has no disk to take a checkpoint; the power that is gone is told ahead of that.
func TestHandMadeSave(t *testing.T) {
	a := &array.Array{}
	saves(t, a, slots(2), checkpoint(0, 0), api.ErrDamaged)
	saves(t, a, slots(2), checkpoint(2, 0), api.ErrArg)
	a.CrashAfter(0)
	saves(t, a, slots(2), checkpoint(0, 0), api.ErrCrashed)
}
