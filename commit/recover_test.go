package commit_test

import (
	"testing"

	"aumbry/api"
	"aumbry/array"
	"aumbry/metalog"
)

// laid is disks on which something was laid past the package.
func laid(t *testing.T, g api.Geometry, lay func(a *array.Array) []api.Errno) *both {
	t.Helper()
	b := blank(t, g, sizeOf(g))
	b.disks(func(a *array.Array) {
		for _, err := range lay(a) {
			if err != api.OK {
				t.Fatal(err)
			}
		}
	})
	return b
}

// journalled is disks with a checkpoint and records behind it.
func journalled(t *testing.T, g api.Geometry, s api.Saved, l ...api.Record) *both {
	t.Helper()
	return laid(t, g, func(a *array.Array) []api.Errno {
		told := []api.Errno{metalog.Label(a, upTo(g.K+g.M)), metalog.Save(a, g, s)}
		for i, r := range l {
			told = append(told, metalog.Append(a, g, s.Epoch, i, r))
		}
		return told
	})
}

// P20.2: disks that no store was made of: Latest's error, and nothing is written.
func TestRecoverOfOthers(t *testing.T) {
	for _, g := range geometries() {
		blank(t, g, sizeOf(g)).recovers(api.ErrDamaged)
		blank(t, g, 1).recovers(api.ErrDamaged)
		labelled := laid(t, g, func(a *array.Array) []api.Errno { return []api.Errno{metalog.Label(a, upTo(g.K+g.M))} })
		labelled.recovers(api.ErrDamaged)
		// A checkpoint that nobody knows of: the slots have no witness.
		unlabelled := laid(t, g, func(a *array.Array) []api.Errno { return []api.Errno{metalog.Save(a, g, api.Saved{})} })
		unlabelled.recovers(api.ErrDamaged)
	}
}

// P20.2: a store without objects, and without records, is there again, twice over.
func TestRecoverOfEmpty(t *testing.T) {
	for _, g := range geometries() {
		b := made(t, g)
		before := snapshot(b.a)
		for range 3 {
			b.recovers(api.OK)
			b.isAt(0, 0, 0)
			b.has()
			b.lists()
			if !sameShot(snapshot(b.a), before) {
				t.Errorf("%+v: Recover has changed the disks", g)
			}
		}
		b.put("a", text(1, 1))
		b.asksAll("a", "b")
	}
}

// P20.2: the power is away: ErrCrashed; and when it comes, the store is there.
func TestRecoverWithoutPower(t *testing.T) {
	b := made(t, example)
	b.puts("a", "hello", api.OK)
	b.crashAfter(0)
	b.recovers(api.ErrCrashed)
	b.restart(nil)
	b.recovers(api.OK)
	b.gets("a", "hello", api.OK)
}

// P20.2: from no record to as many as there are slots, from no checkpoint but the first to the one behind room made three times: the store is the one that was there, and goes on likewise.
func TestRecoverBehindCalls(t *testing.T) {
	for slots := 1; slots <= 4; slots++ {
		g := api.Geometry{K: 2, M: 1, Size: 2, Stripes: 8, Slots: slots, Objects: 4}
		for calls := range 4*slots + 3 {
			b := made(t, g)
			for i := range calls {
				tellNext(b, i)
			}
			rooms := max(0, calls-1) / slots
			area, base, count := rooms%2, rooms*slots, calls-rooms*slots
			b.isAt(area, base, count)
			b.asksAll("none")
			for range 2 {
				b.recovers(api.OK)
				b.isAt(area, base, count)
				b.asksAll("none")
				b.keepsWord()
			}
			b.fillsUp()
			b.recovers(api.OK)
			b.keepsWord()
		}
	}
}

// tellNext is the i-th of calls that put, put anew and delete.
func tellNext(b *both, i int) {
	b.t.Helper()
	switch key := keyOf(i % 3); {
	case i%5 == 4 && b.want[key] != "":
		b.deletes(key, api.OK)
	default:
		b.puts(key, text(1+i%7, i), api.OK)
	}
}

// P20.2: a checkpoint of another area, and of another epoch than any that room was made of; the records' epochs go on from it.
func TestRecoverOfCheckpoints(t *testing.T) {
	for area := range 2 {
		for _, base := range []int{0, 1, 5, 1 << 20, maxBase - 2, maxBase} {
			saved := api.Saved{Area: area, Epoch: base, Objects: []api.Object{object("a", 5, base/2, 1, 3), object("b", 0, 0)}}
			b := journalled(t, example, saved)
			b.recovers(api.OK)
			b.isAt(area, base, 0)
			b.has(saved.Objects...)
			b = journalled(t, example, saved, delOf("a"), putOf("c", 3, 3))
			b.recovers(api.OK)
			b.isAt(area, base, 2)
			b.has(object("b", 0, 0), object("c", 3, base+2, 3))
			b.gets("a", "", api.ErrNotFound)
			b.gets("b", "", api.OK)
			b.gets("c", "", api.ErrDamaged) // no such stripe was ever written
			b.stats("c", 3, api.OK)
		}
	}
}

// P20.2, P20.4: ahead of the greatest epoch that a checkpoint may have room is made; behind it Save refuses it, and nothing has changed.
func TestGreatestEpochs(t *testing.T) {
	for _, left := range []int{0, 1, 2, 3} {
		b := journalled(t, example, api.Saved{Area: 1, Epoch: maxBase - left})
		b.recovers(api.OK)
		b.puts("a", "hello", api.OK)
		b.puts("b", "x", api.OK)
		b.isAt(1, maxBase-left, 2)
		before := snapshot(b.a)
		if left >= 2 {
			b.puts("a", "y", api.OK)
			b.isAt(0, maxBase-left+2, 1)
			b.gets("a", "y", api.OK)
			continue
		}
		b.puts("a", "y", api.ErrArg)
		b.deletes("a", api.ErrArg)
		b.isAt(1, maxBase-left, 2)
		b.gets("a", "hello", api.OK)
		b.has(object("a", 5, maxBase-left+1, 0, 1), object("b", 1, maxBase-left+2, 2))
		if !sameShot(snapshot(b.a), before) {
			t.Errorf("the disks have changed")
		}
		b.recovers(api.OK)
		b.gets("a", "hello", api.OK)
	}
}

// P20.2: a checkpoint whose epoch is greater than may be is Replay's to refuse.
func TestTooGreatAnEpoch(t *testing.T) {
	for epoch, want := range map[int]api.Errno{maxBase: api.OK, maxBase + 1: api.ErrArg, maxNumber: api.ErrArg} {
		b := laid(t, example, func(a *array.Array) []api.Errno {
			told := []api.Errno{metalog.Label(a, upTo(3))}
			for disk := range 3 {
				for i, part := range savedParts(nil) {
					told = append(told, a.Write(disk, areaPlace(0, i), []byte(framed(areaPlace(0, i), epoch, part))))
				}
			}
			return told
		})
		b.recovers(want)
	}
}

// P20.2: ErrDamaged, if the checkpoint's objects don't fit the geometry; nothing is written.
func TestRecoverOfObjectsThatDoNotFit(t *testing.T) {
	for _, l := range [][]api.Object{
		{object("a", 5, 1, 0)},
		{object("a", 5, 1, 0, 1, 2)},
		{object("a", 0, 1, 0)},
		{object("a", 5, 1, 0, 4)},
		{object("a", 5, 1, 2, 2)},
		{object("a", 5, 1, 0, 1), object("b", 1, 2, 1)},
		{object("a", 1, 1, 0), object("b", 1, 1, 1), object("c", 1, 1, 2), object("d", 1, 1, 3)},
		{object("a", maxNumber, 1)},
	} {
		b := journalled(t, example, api.Saved{Area: 1, Epoch: 7, Objects: l})
		b.disks(func(a *array.Array) { a.Replace(1) })
		before := snapshot(b.a)
		b.recovers(api.ErrDamaged)
		if !sameShot(snapshot(b.a), before) {
			t.Errorf("%v: the disks have changed", l)
		}
	}
}

// P20.2: ErrDamaged, if a record can't be applied, the first one or a later one; nothing is written.
func TestRecoverOfRecordsThatCanNotBeApplied(t *testing.T) {
	saved := api.Saved{Area: 0, Epoch: 3, Objects: []api.Object{object("a", 5, 1, 0, 1), object("b", 1, 2, 2)}}
	for _, l := range [][]api.Record{
		{delOf("c")},
		{putOf("c", 1, 0)},
		{putOf("a", 1, 0)},
		{putOf("c", 1, 4)},
		{putOf("c", 1)},
		{putOf("c", 5, 3, 3)},
		{putOf("c", 0), putOf("d", 0)},
		{delOf("a"), delOf("a")},
		{delOf("a"), putOf("c", 1, 2)},
		{putOf("a", 1, 3), putOf("c", 1, 3)},
	} {
		b := journalled(t, example, saved, l...)
		b.disks(func(a *array.Array) { a.Replace(1) })
		before := snapshot(b.a)
		b.recovers(api.ErrDamaged)
		if !sameShot(snapshot(b.a), before) {
			t.Errorf("%v: the disks have changed", l)
		}
	}
}

// P20.2: what a put ahead frees the next record may have, in the order of the slots.
func TestRecoverInOrder(t *testing.T) {
	saved := api.Saved{Area: 0, Epoch: 3, Objects: []api.Object{object("a", 16, 1, 0, 1, 2, 3)}}
	b := journalled(t, example, saved, delOf("a"), putOf("b", 16, 3, 2, 1, 0))
	b.recovers(api.OK)
	b.has(object("b", 16, 5, 3, 2, 1, 0))
	b.isAt(0, 3, 2)
}

// P20.2: too few disks that know: Latest's error, or Replay's; and the store is not made.
func TestRecoverOfTooMuchLost(t *testing.T) {
	for hurt := range 1 << 3 {
		b := made(t, example)
		b.puts("a", "hello", api.OK)
		for disk := range 3 {
			if hurt>>disk&1 == 1 {
				b.replace(disk)
			}
		}
		want := api.OK
		if hurt == 7 {
			want = api.ErrDamaged
		}
		b.recovers(want)
	}
}

// P20.2: the mended places are those of the latest checkpoint's area and the last record's slot, on all disks that are not dead; they last then. The label, the other area, the other slots and the stripes are not.
func TestRecoverMends(t *testing.T) {
	for calls := range 8 {
		b := made(t, example)
		for i := range calls {
			b.puts(keyOf(i%2), text(4, i), api.OK)
		}
		rooms := max(0, calls-1) / 2
		area, count := rooms%2, calls-2*rooms
		b.replace(0)
		b.recovers(api.OK)
		whole, mended := snapshot(b.a).sides[1].lasts, snapshot(b.a).sides[0]
		want := sectors{areaPlace(area, 0): whole[areaPlace(area, 0)], areaPlace(area, 1): whole[areaPlace(area, 1)]}
		if count > 0 {
			want[slotPlace(count-1)] = whole[slotPlace(count-1)]
		}
		if !sameShot(shot{sides: []side{mended}}, shot{sides: []side{{want, sectors{}, true, 1}}}) {
			t.Errorf("%d calls: %v, want %v", calls, mended, want)
		}
		b.keepsWord()
		b.recovers(api.OK)
		b.keepsWord()
	}
}

// P20.2: a sector of the area, or the last slot, that has a byte changed is mended; a dead disk gets nothing.
func TestRecoverMendsBytes(t *testing.T) {
	for _, place := range []int{1, 2, 3, 4, 5, 6, 7} {
		b := made(t, example)
		b.puts("a", "hello", api.OK)
		b.puts("b", "x", api.OK)
		before := snapshot(b.a)
		b.fail(2)
		b.corrupt(1, place, 9, 4)
		spoilt := snapshot(b.a)
		b.recovers(api.OK)
		mended := place == 1 || place == 2 || place == 6
		if got := snapshot(b.a).sides[1]; mended != sameShot(shot{sides: []side{got}}, shot{sides: before.sides[1:2]}) && place != 3 && place != 4 {
			t.Errorf("place %d: mended %v", place, !mended)
		}
		if !mended && !sameShot(snapshot(b.a), spoilt) {
			t.Errorf("place %d: the disks have changed", place)
		}
		if len(b.a.Lasts(2))+len(b.a.Waits(2)) > 0 {
			t.Errorf("a dead disk holds something")
		}
	}
}

// P20.2: Recover flushes all disks, whatever waits on them.
func TestRecoverFlushes(t *testing.T) {
	b := made(t, example)
	b.puts("a", "hello", api.OK)
	b.disks(func(a *array.Array) { a.Write(1, 10, []byte("waits")) })
	b.recovers(api.OK)
	if n := snapshot(b.a).waits(); n != 0 {
		t.Errorf("%d sectors wait", n)
	}
	if got := asSectors(b.a.Lasts(1))[10]; got != "waits" {
		t.Errorf("%q", got)
	}
}

// P20.2: a record that a crash left on one disk alone lies on all of them behind Recover, so that it stays though that disk fails.
func TestRecoverOfOneCopy(t *testing.T) {
	for disk := range 3 {
		b := made(t, example)
		b.crashAfter(6 + 3)
		b.puts("a", "hello", api.ErrCrashed)
		keep := make([][]int, 3)
		keep[disk] = []int{slotPlace(0)}
		b.restart(keep)
		b.recovers(api.OK)
		b.gets("a", "hello", api.OK)
		b.keepsWord()
		b.fail(disk)
		b.recovers(api.OK)
		b.gets("a", "hello", api.OK)
		b.keepsWord()
	}
}

// W5: a store that is recovered answers all that follows as the one that went on.
func TestRecoveredGoesOnLikewise(t *testing.T) {
	for _, g := range geometries() {
		for at := range 7 {
			one, other := made(t, g), made(t, g)
			for i := range 7 {
				if i == at {
					other.recovers(api.OK)
				}
				for _, b := range []*both{one, other} {
					b.put(keyOf(i%3), text(i%3*partOf(g)/2, i))
					b.remove(keyOf((i + 1) % 2))
					b.asksAll("a")
				}
			}
			if !sameShot(snapshot(one.a), snapshot(other.a)) {
				t.Errorf("%+v: the disks are unlike", g)
			}
		}
	}
}
