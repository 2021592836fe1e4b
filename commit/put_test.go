package commit_test

import (
	"slices"
	"testing"

	"aumbry/api"
	"aumbry/array"
)

// P20.4: of each length, from none to as many bytes as fit, the bytes are got again, before and behind Recover; one more is refused.
func TestPutLengths(t *testing.T) {
	for _, g := range geometries() {
		part := partOf(g)
		all := part * g.Stripes
		for _, n := range []int{0, 1, part - 1, part, part + 1, 2*part - 1, 2 * part, 2*part + 1, all - part, all - 1, all, all + 1, all + part, 2 * all} {
			if n < 0 {
				continue
			}
			b := made(t, g)
			want := api.OK
			if n > all {
				want = api.ErrNoSpace
			}
			b.puts("a", text(n, n), want)
			if want == api.OK {
				b.gets("a", text(n, n), api.OK)
				b.stats("a", n, api.OK)
				b.has(object("a", n, 1, upTo((n+part-1)/part)...))
				b.isAt(0, 0, 1)
			} else {
				b.gets("a", "", api.ErrNotFound)
				b.isAt(0, 0, 0)
			}
			b.recovers(api.OK)
			b.asksAll("a")
			b.keepsWord()
		}
	}
}

// P20.4: what lies on the disks behind a put and a delete, byte by byte: parts of K · Size bytes, the last one filled up with 0, with the record's epoch, and then the record; all of it lasts.
func TestBytesOnDisks(t *testing.T) {
	b := made(t, example)
	b.puts("a", "hello", api.OK)
	b.puts("bc", "", api.OK)
	parity := func(x, y string) string {
		var p []byte
		for i := range x {
			p = append(p, field.Mul(142, x[i])^field.Mul(244, y[i]))
		}
		return string(p)
	}
	shards := [][]string{{"he", "ll", parity("he", "ll")}, {"o\x00", "\x00\x00", parity("o\x00", "\x00\x00")}}
	for disk, d := range snapshot(b.a).sides {
		want := formatted()
		want[5] = framed(5, 1, "\x01\x01a\x00\x00\x00\x05\x00\x02\x00\x00\x00\x01")
		want[6] = framed(6, 2, "\x01\x02bc\x00\x00\x00\x00\x00\x00")
		want[7] = framed(7, 1, shards[0][disk])
		want[8] = framed(8, 1, shards[1][(disk+2)%3])
		if !sameShot(shot{sides: []side{d}}, shot{sides: []side{{want, sectors{}, true, 0}}}) {
			t.Errorf("disk %d: %v, want %v", disk, d, want)
		}
	}
	b.deletes("a", api.OK)
	area := savedParts([]api.Object{object("a", 5, 1, 0, 1), object("bc", 0, 2)})
	for disk, d := range snapshot(b.a).sides {
		for place, want := range map[int]string{3: framed(3, 2, area[0]), 4: framed(4, 2, area[1]), 5: framed(5, 3, "\x02\x01a\x00\x00\x00\x00\x00\x00"), 6: framed(6, 2, "\x01\x02bc\x00\x00\x00\x00\x00\x00")} {
			if d.lasts[place] != want || len(d.waits) > 0 {
				t.Errorf("disk %d, place %d: %x, want %x", disk, place, d.lasts[place], want)
			}
		}
	}
}

// P20.4: an object in the place of another of its key, shorter, longer, as long: other stripes, and the elder ones are free behind it.
func TestPutAnew(t *testing.T) {
	for _, first := range []int{0, 1, 4, 5, 8} {
		for _, second := range []int{0, 1, 4, 5, 8} {
			b := made(t, example)
			b.puts("a", text(first, 1), api.OK)
			b.puts("a", text(second, 2), api.OK)
			b.gets("a", text(second, 2), api.OK)
			b.lists("a")
			elder, now := (first+3)/4, (second+3)/4
			stripes := upTo(4)[elder : elder+now]
			b.has(object("a", second, 2, stripes...))
			b.puts("b", text(16-4*now, 3), api.OK)
			b.gets("a", text(second, 2), api.OK)
			b.gets("b", text(16-4*now, 3), api.OK)
			b.puts("c", "x", api.ErrNoSpace)
			b.recovers(api.OK)
			b.keepsWord()
		}
	}
}

// P20.4: just as many stripes are free as are needed, and one fewer; the elder object's are not free yet.
func TestFreeStripes(t *testing.T) {
	for held := range 5 {
		for bytes := range 18 {
			for _, key := range []string{"a", "b"} {
				b := made(t, example)
				b.puts("a", text(4*held, 1), api.OK)
				want := api.OK
				if (bytes+3)/4 > 4-held {
					want = api.ErrNoSpace
				}
				before := snapshot(b.a)
				b.puts(key, text(bytes, 2), want)
				if want != api.OK && !sameShot(snapshot(b.a), before) {
					t.Errorf("the disks have changed")
				}
				b.recovers(api.OK)
				b.keepsWord()
				b.fillsUp()
			}
		}
	}
}

// P20.4: as many objects as may be, and one more; one in the place of another may still be put.
func TestManyObjects(t *testing.T) {
	for _, g := range geometries() {
		b := made(t, g)
		for i := range g.Objects {
			b.puts(keyOf(i), "", api.OK)
		}
		b.puts("more", "", api.ErrTooMany)
		b.puts("more", text(partOf(g)*g.Stripes+1, 1), api.ErrTooMany)
		b.puts(keyOf(0), "x", api.OK)
		b.gets(keyOf(0), "x", api.OK)
		b.recovers(api.OK)
		b.puts("more", "", api.ErrTooMany)
		b.deletes(keyOf(g.Objects-1), api.OK)
		b.puts("more", "", api.OK)
		b.recovers(api.OK)
		b.keepsWord()
	}
}

// P20.4: as many objects as any geometry may have, with keys as long as may be and all stripes: a checkpoint fills both sectors, and comes again.
func TestGreatestCheckpoint(t *testing.T) {
	b := made(t, widest)
	key := func(i int) string { return longKey(maxKey-4) + keyOf(i) }
	for i := range maxObjects {
		b.puts(key(i), text(4, i), api.OK)
	}
	b.isAt(0, 0, maxSlots)
	b.puts("more", "", api.ErrTooMany)
	b.puts(key(0), "x", api.ErrNoSpace)
	b.recovers(api.OK)
	b.keepsWord()
	b.isAt(0, 0, maxSlots)
	b.deletes(key(7), api.OK)
	b.isAt(1, 64, 1)
	if got := len(b.a.Lasts(0)[3].B) + len(b.a.Lasts(0)[4].B); got != 2+64*(4+2+64+4+2)+2*256+2*12 {
		t.Errorf("%d bytes", got)
	}
	b.recovers(api.OK)
	b.keepsWord()
	for i := range 2 * maxSlots {
		b.puts(key(7), text(1+i%2, i), api.OK)
	}
	b.isAt(1, 192, 1)
	b.recovers(api.OK)
	b.keepsWord()
	b.fillsUp()
}

// P20.4: which error is told where several apply; none of them makes room or changes anything.
func TestWhichError(t *testing.T) {
	b := made(t, example)
	b.puts("a", "", api.OK)
	b.puts("b", text(12, 1), api.OK)
	before := snapshot(b.a)
	long := text(17, 1)
	for _, key := range []string{"", longKey(65), longKey(66), longKey(1000)} {
		b.puts(key, "", api.ErrBadKey)
		b.puts(key, long, api.ErrBadKey)
		b.deletes(key, api.ErrBadKey)
		b.gets(key, "", api.ErrBadKey)
		b.stats(key, 0, api.ErrBadKey)
	}
	b.puts("c", long, api.ErrNoSpace)
	b.puts("b", text(5, 2), api.ErrNoSpace)
	b.deletes("c", api.ErrNotFound)
	b.isAt(0, 0, 2)
	if !sameShot(snapshot(b.a), before) {
		t.Errorf("the disks have changed")
	}
	b.puts("c", "", api.OK)
	b.puts("d", long, api.ErrTooMany)
	b.puts("", long, api.ErrBadKey)
	b.puts("b", text(5, 2), api.ErrNoSpace)
	b.isAt(1, 2, 1)
	b.recovers(api.OK)
	b.keepsWord()
}

// P20.4: these errors are told without the disks' being asked: the power is away, and the store isn't lost.
func TestErrorsWithoutPower(t *testing.T) {
	b := made(t, example)
	b.puts("a", "hello", api.OK)
	b.puts("b", "", api.OK)
	b.crashAfter(0)
	b.puts("", "", api.ErrBadKey)
	b.puts("c", text(9, 1), api.ErrNoSpace)
	b.deletes("c", api.ErrNotFound)
	b.deletes("", api.ErrBadKey)
	b.gets("c", "", api.ErrNotFound)
	b.gets("b", "", api.OK)
	b.stats("a", 5, api.OK)
	b.lists("a", "b")
	b.restart(nil)
	b.gets("a", "hello", api.OK)
	b.puts("c", text(8, 1), api.OK)
	b.recovers(api.OK)
	b.keepsWord()
}

// P20.3: keys from one byte to MaxKey bytes, of any bytes, may be; keys are held against each other byte by byte.
func TestKeys(t *testing.T) {
	keys := []string{"a", "\x00", "\xff", " ", "\xc3\xa9", "e\xcc\x81", "A", "aa", longKey(63), longKey(64), "\x00\x00"}
	g := api.Geometry{K: 2, M: 1, Size: 2, Stripes: 40, Slots: 3, Objects: 20}
	b := made(t, g)
	for i, key := range keys {
		b.puts(key, text(i, i), api.OK)
	}
	want := slices.Sorted(slices.Values(keys))
	b.lists(want...)
	b.recovers(api.OK)
	b.lists(want...)
	for i, key := range keys {
		b.gets(key, text(i, i), api.OK)
		b.stats(key, i, api.OK)
	}
	for _, key := range keys {
		b.deletes(key, api.OK)
		b.gets(key, "", api.ErrNotFound)
		b.deletes(key, api.ErrNotFound)
	}
	b.lists()
	b.recovers(api.OK)
	b.lists()
}

// P20.4: a deleted object is gone, its stripes are free, and it may be put again.
func TestDelete(t *testing.T) {
	for _, bytes := range []int{0, 1, 5, 16} {
		b := made(t, example)
		b.puts("a", text(bytes, 1), api.OK)
		b.deletes("a", api.OK)
		b.gets("a", "", api.ErrNotFound)
		b.stats("a", 0, api.ErrNotFound)
		b.deletes("a", api.ErrNotFound)
		b.lists()
		b.has()
		b.isAt(0, 0, 2)
		b.recovers(api.OK)
		b.lists()
		b.puts("b", text(16, 2), api.OK)
		b.recovers(api.OK)
		b.gets("b", text(16, 2), api.OK)
	}
}

// P20.4: a delete flushes what it appends alone of all that was written, ahead of which nothing lasts anew: it writes one sector of each disk.
func TestDeleteWrites(t *testing.T) {
	b := made(t, example)
	b.puts("a", "hello", api.OK)
	b.disks(func(a *array.Array) { a.Write(0, 10, []byte("waits")) })
	b.crashAfter(3)
	b.deletes("a", api.ErrCrashed)
	if got := asSectors(b.a.Waits(0))[10]; got != "waits" {
		t.Errorf("%q: flushed ahead of the record", got)
	}
	b.restart(nil)
	b.recovers(api.OK)
	b.keepsWord()
	b.gets("a", "hello", api.OK)
}

// P20.4: a put flushes its stripes ahead of its record, an empty one's too: what waited lasts then.
func TestPutFlushesAheadOfTheRecord(t *testing.T) {
	for bytes, writes := range map[int]int{0: 1, 1: 4, 5: 7} {
		b := made(t, example)
		b.disks(func(a *array.Array) { a.Write(0, 10, []byte("waits")) })
		b.crashAfter(writes)
		b.puts("a", text(bytes, 1), api.ErrCrashed)
		s := snapshot(b.a)
		if s.waits() != 1 || s.sides[0].waits[slotPlace(0)] == "" || s.sides[0].lasts[10] != "waits" {
			t.Errorf("%d bytes: %v", bytes, s)
		}
	}
}

// P20.4: room is made just where the count is Slots, and not before, by a put and by a delete: in the other area, with the base as many more; the record stands in the first slot then.
func TestRoom(t *testing.T) {
	for slots := 1; slots <= 5; slots++ {
		for _, deletes := range []bool{false, true} {
			b := made(t, api.Geometry{K: 2, M: 1, Size: 2, Stripes: 9, Slots: slots, Objects: 3})
			area, base, count := 0, 0, 0
			for i := range 4*slots + 2 {
				objects := b.m.objects
				before := snapshot(b.a).sides[0].lasts
				full := count == slots
				if _, is := b.want["a"]; is && full && deletes {
					b.deletes("a", api.OK)
				} else {
					b.puts("a", text(5, i), api.OK)
				}
				if full {
					area, base, count = 1-area, base+slots, 0
				}
				count++
				b.isAt(area, base, count)
				behind := snapshot(b.a).sides[0].lasts
				for other := range 2 {
					for part, data := range savedParts(objects) {
						place := areaPlace(other, part)
						want := before[place]
						if full && other == area {
							want = framed(place, base, data)
						}
						if behind[place] != want {
							t.Fatalf("call %d of %d slots: place %d: %x, want %x", i, slots, place, behind[place], want)
						}
					}
				}
				for slot := range slots {
					if is := behind[slotPlace(slot)] != before[slotPlace(slot)]; is != (slot == count-1) {
						t.Fatalf("call %d of %d slots: slot %d: written %v", i, slots, slot, is)
					}
				}
			}
			b.recovers(api.OK)
			b.keepsWord()
		}
	}
}

// P20.4: a call that is refused makes no room, and one that asks writes nothing.
func TestNoRoomForOthers(t *testing.T) {
	b := made(t, example)
	b.puts("a", "hello", api.OK)
	b.puts("b", "", api.OK)
	before := snapshot(b.a)
	b.puts("", "", api.ErrBadKey)
	b.puts("c", text(9, 1), api.ErrNoSpace)
	b.deletes("c", api.ErrNotFound)
	b.asksAll("a", "b", "c")
	b.isAt(0, 0, 2)
	if !sameShot(snapshot(b.a), before) {
		t.Errorf("the disks have changed")
	}
}

// P20.4: all disks are dead: no one takes the record, or the checkpoint: ErrDamaged, and nothing of what the store tells has changed.
func TestNoDisks(t *testing.T) {
	for count := range 3 {
		b := made(t, example)
		for i := range count {
			b.puts(keyOf(i), text(i, 1), api.OK)
		}
		for disk := range 3 {
			b.fail(disk)
		}
		b.puts("z", "", api.ErrDamaged)
		b.puts("z", "x", api.ErrDamaged)
		b.puts("", "x", api.ErrBadKey)
		if count > 0 {
			b.puts(keyOf(0), "y", api.ErrDamaged)
			b.deletes(keyOf(0), api.ErrDamaged)
			b.gets(keyOf(0), "", api.OK)
			b.stats(keyOf(0), 0, api.OK)
		}
		b.gets("z", "", api.ErrNotFound)
		b.isAt(0, 0, count)
		b.recovers(api.ErrDamaged)
		b.replace(1)
		b.puts("z", "", api.OK)
		b.gets("z", "", api.OK)
	}
}

// P20.4: one disk of three is enough for a record; what isn't written on enough disks is told by Get alone.
func TestFewDisks(t *testing.T) {
	for dead := range 3 {
		b := made(t, example)
		b.fail(dead)
		b.puts("a", "hello", api.OK)
		b.gets("a", "hello", api.OK)
		b.fail((dead + 1) % 3)
		b.puts("b", "x", api.OK)
		b.gets("a", "", api.ErrDamaged)
		b.gets("b", "", api.ErrDamaged)
		b.stats("b", 1, api.OK)
		b.lists("a", "b")
		b.puts("c", "", api.OK)
		b.gets("c", "", api.OK)
		b.deletes("a", api.OK)
		b.recovers(api.OK)
		b.lists("b", "c")
		b.gets("b", "", api.ErrDamaged)
		b.gets("c", "", api.OK)
	}
}
