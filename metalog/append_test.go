package metalog_test

import (
	"math"
	"slices"
	"strings"
	"testing"

	"aumbry/api"
	"aumbry/array"
)

// someRecords are of all kinds: the least, the greatest, keys of any bytes.
func someRecords() []api.Record {
	all := slices.Repeat([]int{maxStripes - 1}, maxStripes)
	return []api.Record{
		put("a", 0), put("a", 5, 3), put("\x00", 1, 0), put("\xff\xfe", maxNumber, 255, 0, 0),
		put(strings.Repeat("k", maxKey), maxNumber, all...), put("a", 7, upTo(maxStripes)...),
		del("a"), del("\x00"), del(strings.Repeat("\xff", maxKey)),
	}
}

// wrongRecords are some that may not be.
func wrongRecords() []api.Record {
	return []api.Record{
		{}, {Kind: 1}, put("", 0), del(""), put(strings.Repeat("k", maxKey+1), 0), del(strings.Repeat("k", maxKey+1)),
		{Key: "a"}, {Kind: 3, Key: "a"}, {Kind: -1, Key: "a"}, {Kind: 257, Key: "a"}, {Kind: math.MinInt, Key: "a"},
		put("a", -1), put("a", maxNumber+1), put("a", math.MinInt), put("a", math.MaxInt), put("a", 1<<32),
		put("a", 1, -1), put("a", 1, maxStripes), put("a", 1, 0, 1, 2, math.MaxInt), put("a", 1, make([]int, maxStripes+1)...),
		{Kind: 2, Key: "a", Length: 1}, {Kind: 2, Key: "a", Stripes: []int{0}}, {Kind: 2, Key: "a", Length: -1},
	}
}

// bases are some that may be.
func bases() []int {
	return []int{0, 1, 5, 255, 256, 1 << 24, maxBase - 1, maxBase}
}

// wrongNumbers are below 0 or far too great, for a base, an epoch or a count.
func wrongNumbers() []int {
	return []int{-1, -2, math.MinInt, math.MinInt + 1, -1 << 32}
}

// wrongBases are some that may not be.
func wrongBases() []int {
	return append(wrongNumbers(), maxBase+1, maxBase+2, maxNumber, maxNumber+1, 1<<32, 1<<32+1, math.MaxInt-64, math.MaxInt)
}

// wrongGeometries are some that may not be, of each kind.
func wrongGeometries() []api.Geometry {
	var list []api.Geometry
	wrong := func(change func(*api.Geometry, int), numbers ...int) {
		for _, n := range numbers {
			g := slots(2)
			change(&g, n)
			list = append(list, g)
		}
	}
	wrong(func(g *api.Geometry, n int) { g.K = n }, 0, -1, 32, 257, math.MinInt, math.MaxInt)
	wrong(func(g *api.Geometry, n int) { g.M = n }, -1, 32, 256, math.MinInt, math.MaxInt)
	wrong(func(g *api.Geometry, n int) { g.K, g.M = n, 33-n }, 1, 16, 33)
	wrong(func(g *api.Geometry, n int) { g.K, g.M = n, -n }, 0, 1, math.MaxInt)
	wrong(func(g *api.Geometry, n int) { g.Size = n }, 0, -1, 4097, math.MinInt, math.MaxInt)
	wrong(func(g *api.Geometry, n int) { g.Stripes = n }, 0, -1, 257, math.MinInt, math.MaxInt)
	wrong(func(g *api.Geometry, n int) { g.Slots = n }, 0, -1, 65, math.MinInt, math.MaxInt)
	wrong(func(g *api.Geometry, n int) { g.Objects = n }, 0, -1, 65, math.MinInt, math.MaxInt)
	return append(list, api.Geometry{})
}

// appended is what disks tell behind a record that was appended to them: it lasts in its slot, and all that waited lasts too.
func (s shot) appended(base, count int, r api.Record) {
	for i, d := range s.sides {
		if !d.live {
			continue
		}
		for place, b := range d.waits {
			d.lasts[place] = b
		}
		clear(d.waits)
		s.sides[i].lasts[slotPlace(count)] = framed(slotPlace(count), base+count+1, recordBytes(r))
	}
}

// P18.2: where the record lies on each disk, with which epoch, that it lasts, and that it is replayed.
func TestAppendLays(t *testing.T) {
	for _, g := range []api.Geometry{slots(1), slots(3), slots(maxSlots), {K: 3, M: 2, Size: 4096, Stripes: 256, Slots: 2, Objects: 64}} {
		for _, disks := range []int{1, 2, 5} {
			for _, base := range bases() {
				for i, r := range someRecords() {
					count := (i * i) % g.Slots
					a := fresh(t, disks, sizeOf(g))
					want := snapshot(a)
					want.appended(base, count, r)
					appends(t, a, g, base, count, r, api.OK)
					holds(t, "behind Append", a, want)
					a.Restart(nil)
					holds(t, "behind Append and a crash", a, want)
				}
			}
		}
	}
}

// P18.2: all slots, one behind the other, up to the last: each place has its record, with its epoch; then the journal is full.
func TestAppendAllSlots(t *testing.T) {
	for _, n := range []int{1, 2, 3, maxSlots} {
		for _, base := range []int{0, 7, maxBase} {
			g := slots(n)
			a := fresh(t, 3, sizeOf(g))
			labels(t, a, []int{1}, api.OK)
			want := snapshot(a)
			var l []api.Record
			for count := range n {
				r := someRecords()[count%9]
				want.appended(base, count, r)
				appends(t, a, g, base, count, r, api.OK)
				l = append(l, r)
				holds(t, "behind Append", a, want)
				replays(t, a, g, []bool{false, true}, base, l...)
			}
			for _, count := range []int{n, n + 1, 2 * n, maxSlots, maxNumber, math.MaxInt - base, math.MaxInt - base - 1, math.MaxInt} {
				if count >= n {
					appends(t, a, g, base, count, put("a", 0), api.ErrLogFull)
				}
			}
			holds(t, "behind an Append to a full journal", a, want)
		}
	}
}

// P18.2: whatever lay in the slot is written over, and whatever waits is flushed.
func TestAppendOver(t *testing.T) {
	g := slots(2)
	for _, elder := range []int{0, 5, 6, 7, maxNumber} {
		a := fresh(t, 3, sizeOf(g))
		laysAll(t, a, slotPlace(1), elder, recordBytes(del("elder")))
		flushes(t, a)
		lays(t, a, 0, slotPlace(1), "waits there")
		lays(t, a, 1, 0, "waits elsewhere")
		lays(t, a, 2, slotPlace(0), "waits in another slot")
		a.Fail(2)
		want := snapshot(a)
		want.appended(4, 1, put("a", 1, 0))
		appends(t, a, g, 4, 1, put("a", 1, 0), api.OK)
		holds(t, "behind Append", a, want)
	}
}

// P18.2: any disks are dead: the others take it; all are: ErrDamaged.
func TestAppendDead(t *testing.T) {
	const disks = 4
	g := slots(2)
	for dead := range 1 << disks {
		a := fresh(t, disks, sizeOf(g))
		for _, disk := range chosen(dead, disks) {
			a.Fail(disk)
		}
		want := snapshot(a)
		want.appended(3, 1, del("a"))
		told := api.OK
		if dead == 1<<disks-1 {
			told = api.ErrDamaged
		}
		appends(t, a, g, 3, 1, del("a"), told)
		holds(t, "behind an Append while disks are dead", a, want)
	}
}

// P18.2: no disk has so many sectors: ErrDamaged; what waits elsewhere is flushed, as that comes ahead of it.
func TestAppendBeyond(t *testing.T) {
	g := slots(3)
	for size := 1; size <= 9; size++ {
		for count := range 3 {
			a := fresh(t, 2, size)
			lays(t, a, 0, 0, "waits")
			want := snapshot(a)
			want.sides[0].lasts, want.sides[0].waits = want.sides[0].waits, want.sides[0].lasts
			if slotPlace(count) >= size {
				appends(t, a, g, 0, count, put("a", 0), api.ErrDamaged)
			} else {
				want.appended(0, count, put("a", 0))
				appends(t, a, g, 0, count, put("a", 0), api.OK)
			}
			holds(t, "behind an Append beyond the disks", a, want)
		}
	}
}

// P18.2: the power goes at each write, while any disks are dead: what was written waits, nothing was flushed, and ErrCrashed is told, also where the last write is the one.
func TestAppendCrash(t *testing.T) {
	const disks = 4
	g := slots(2)
	for dead := range 1 << disks {
		for left := range disks + 3 {
			a := fresh(t, disks, sizeOf(g))
			appends(t, a, g, 4, 0, put("elder", 0), api.OK)
			lays(t, a, 3, 1, "waits")
			for _, disk := range chosen(dead, disks) {
				a.Fail(disk)
			}
			a.CrashAfter(left)
			if left == 0 {
				left = -1
			}
			m := modelOf(a, sizeOf(g), left)
			asAppends(t, a, m, g, 4, 1, put("next", 3, 1))
			// The power is gone, or the next call's writes bring it down.
			asAppends(t, a, m, g, 4, 1, del("more"))
		}
	}
}

// P18.2: the same in plain numbers: three disks need more than three writes, lest the flush be cut.
func TestAppendCrashPlain(t *testing.T) {
	g := slots(2)
	for left := range 5 {
		a := fresh(t, 3, sizeOf(g))
		labels(t, a, upTo(3), api.OK)
		want := snapshot(a)
		a.CrashAfter(left)
		if left > 3 {
			appends(t, a, g, 0, 0, put("a", 0), api.OK)
			a.Restart(nil)
			replays(t, a, g, knowing(3), 0, put("a", 0))
			continue
		}
		for disk := range left {
			want.sides[disk].waits[5] = framed(5, 1, recordBytes(put("a", 0)))
		}
		want.down = true
		appends(t, a, g, 0, 0, put("a", 0), api.ErrCrashed)
		holds(t, "behind an Append that was cut", a, want)
		a.Restart(nil)
		replays(t, a, g, knowing(3), 0)
	}
}

// anyDisks are disks in each of some states: whole, with a crash at the next write, all dead, without power.
func anyDisks(t *testing.T) []*array.Array {
	t.Helper()
	var all []*array.Array
	for state := range 4 {
		a := fresh(t, 2, 9)
		labels(t, a, []int{0}, api.OK)
		lays(t, a, 1, 0, "waits")
		switch state {
		case 1:
			a.CrashAfter(1)
		case 2:
			a.Fail(0)
			a.Fail(1)
		case 3:
			a.CrashAfter(0)
		}
		all = append(all, a)
	}
	return all
}

// refusesAppend asks Append for an error of what it is given, on disks in any state, which are left as they were.
func refusesAppend(t *testing.T, g api.Geometry, base, count int, r api.Record, want api.Errno) {
	t.Helper()
	for _, a := range anyDisks(t) {
		before := snapshot(a)
		appends(t, a, g, base, count, r, want)
		holds(t, "behind an Append that may not be", a, before)
	}
}

// P18.2: a base, a count or a record that may not be: ErrArg, ahead of a journal that is full, of the power that is gone and of dead disks.
func TestAppendWrong(t *testing.T) {
	g := slots(2)
	may := put("a", 0)
	for _, base := range wrongBases() {
		for _, count := range []int{0, 1, 2, 3, -1, maxNumber, math.MaxInt, math.MinInt} {
			refusesAppend(t, g, base, count, may, api.ErrArg)
		}
		refusesAppend(t, g, base, 0, api.Record{}, api.ErrArg)
	}
	for _, count := range wrongNumbers() {
		for _, base := range bases() {
			refusesAppend(t, g, base, count, may, api.ErrArg)
		}
	}
	for _, r := range wrongRecords() {
		for _, count := range []int{0, 1, 2, 3, -1, math.MaxInt} {
			refusesAppend(t, g, 0, count, r, api.ErrArg)
		}
		refusesAppend(t, g, maxBase, 1, r, api.ErrArg)
	}
}

// P18.2: a count that is Slots, or more: ErrLogFull, ahead of the power that is gone and of dead disks.
func TestAppendFull(t *testing.T) {
	for _, n := range []int{1, 2, 63, maxSlots} {
		for _, base := range bases() {
			for _, count := range []int{n, n + 1, maxNumber, 1 << 32, math.MaxInt} {
				refusesAppend(t, slots(n), base, count, put("a", 0), api.ErrLogFull)
			}
		}
	}
}

// P18.2: a geometry that may not be: ErrConfig, ahead of all that may not be but no array.
func TestAppendGeometry(t *testing.T) {
	for _, g := range wrongGeometries() {
		for _, base := range []int{0, -1, maxBase + 1} {
			for _, count := range []int{0, -1, 1, 2, maxSlots, math.MaxInt} {
				refusesAppend(t, g, base, count, put("a", 0), api.ErrConfig)
			}
			refusesAppend(t, g, base, 0, api.Record{}, api.ErrConfig)
		}
	}
}

// P18.2: no array: ErrArg, ahead of all else.
func TestAppendNoArray(t *testing.T) {
	for _, g := range append(wrongGeometries(), slots(2)) {
		for _, base := range []int{0, -1, maxBase, maxBase + 1} {
			for _, count := range []int{0, -1, 2, math.MaxInt} {
				appends(t, nil, g, base, count, put("a", 0), api.ErrArg)
				appends(t, nil, g, base, count, api.Record{}, api.ErrArg)
			}
		}
	}
}

// R1: an array that was made by hand has no disk to take a record; the power that is gone is told ahead of that.
func TestHandMadeAppend(t *testing.T) {
	a := &array.Array{}
	appends(t, a, slots(2), 0, 0, put("a", 0), api.ErrDamaged)
	appends(t, a, slots(2), 0, 2, put("a", 0), api.ErrLogFull)
	appends(t, a, slots(2), -1, 2, put("a", 0), api.ErrArg)
	appends(t, a, api.Geometry{}, -1, 2, put("a", 0), api.ErrConfig)
	a.CrashAfter(0)
	appends(t, a, slots(2), 0, 0, put("a", 0), api.ErrCrashed)
	appends(t, a, slots(2), 0, 2, put("a", 0), api.ErrLogFull)
}
