package metalog_test

import (
	"slices"
	"testing"

	"aumbry/api"
	"aumbry/array"
	"aumbry/metalog"
	"aumbry/vote"
)

// told is what disks are asked for behind a crash: the latest checkpoint, and the records behind it.
type told struct {
	saved   api.Saved
	records []api.Record
}

func (w told) is(v told) bool {
	return sameSaved(w.saved, v.saved) && slices.EqualFunc(w.records, v.records, sameRecord)
}

// asked is what disks tell now.
func asked(t *testing.T, a *array.Array, g api.Geometry) told {
	t.Helper()
	know, err := metalog.Knows(a)
	if err != api.OK {
		t.Fatalf("Knows() = %d", err)
	}
	s, err := metalog.Latest(a, g, know)
	if err != api.OK {
		t.Fatalf("Latest() = %d, of %v", err, snapshot(a))
	}
	l, err := metalog.Replay(a, g, know, s.Epoch)
	if err != api.OK {
		t.Fatalf("Replay() = %d, of %v", err, snapshot(a))
	}
	return told{s, l}
}

// call is one that a crash may cut, behind others that were done.
type call struct {
	ahead  func(t *testing.T, a *array.Array, g api.Geometry)
	do     func(a *array.Array, g api.Geometry) api.Errno
	places []int // where it writes
	before told
	behind told
}

// appendsTo is an Append behind so many records, over elder ones or not.
func appendsTo(count int, elder bool) call {
	l := []api.Record{put("a", 5, 1), del("a"), put("b", 0)}
	s := checkpoint(0, 0)
	if elder {
		s = checkpoint(1, 3, object("c", 1, 2, 0))
	}
	return call{
		ahead: func(t *testing.T, a *array.Array, g api.Geometry) {
			saves(t, a, g, checkpoint(0, 0), api.OK)
			if elder {
				for i := range 3 {
					appends(t, a, g, 0, i, put("elder", i), api.OK)
				}
				saves(t, a, g, s, api.OK)
			}
			for i := range count {
				appends(t, a, g, s.Epoch, i, l[i], api.OK)
			}
		},
		do:     func(a *array.Array, g api.Geometry) api.Errno { return metalog.Append(a, g, s.Epoch, count, l[count]) },
		places: []int{slotPlace(count)},
		before: told{s, l[:count]},
		behind: told{s, l[:count+1]},
	}
}

// savesTo is a Save to an area behind some records, over an elder checkpoint if that is the area 0.
func savesTo(area int, next []api.Object) call {
	list := []api.Saved{checkpoint(0, 0, object("x", 1, 0, 1))}
	if area == 0 {
		list = append(list, checkpoint(1, 2, object("y", 1, 2, 1)))
	}
	s := list[len(list)-1]
	l := []api.Record{put("a", 5, 1), del("a")}
	behind := checkpoint(area, s.Epoch+2, next...)
	return call{
		ahead: func(t *testing.T, a *array.Array, g api.Geometry) {
			for _, s := range list {
				saves(t, a, g, s, api.OK)
				for i := range 2 {
					appends(t, a, g, s.Epoch, i, l[i], api.OK)
				}
			}
		},
		do:     func(a *array.Array, g api.Geometry) api.Errno { return metalog.Save(a, g, behind) },
		places: []int{areaPlace(area, 0), areaPlace(area, 1)},
		before: told{s, l},
		behind: told{behind, nil},
	}
}

// keeps is what is kept of what waits at some places of each of some disks, by a number's bits.
func keeps(bits, disks int, places []int) [][]int {
	keep := make([][]int, disks)
	for disk := range keep {
		for _, place := range places {
			if bits&1 == 1 {
				keep[disk] = append(keep[disk], place)
			}
			bits >>= 1
		}
	}
	return keep
}

// spoilAll changes a byte of each sector of a disk, from a place on.
func spoilAll(t *testing.T, a *array.Array, disk, from int) {
	t.Helper()
	for _, h := range a.Lasts(disk) {
		if h.Addr >= from {
			spoils(t, a, disk, h.Addr, 7*h.Addr)
		}
	}
}

// hurts hurts a disk in one of four ways.
func hurts(t *testing.T, a *array.Array, disk, way int) {
	t.Helper()
	switch way % 4 {
	case 0:
		a.Fail(disk)
	case 1:
		a.Replace(disk)
	case 2:
		spoilAll(t, a, disk, 0)
	case 3:
		spoilAll(t, a, disk, 1)
	}
}

// cut lets the power go behind so many writes of a call, some of what waited last, and some disks be hurt; what is told then, and whether the call was done.
func (c call) cut(t *testing.T, disks, left, kept, hurt, way int) (told, bool) {
	t.Helper()
	g := slots(3)
	a := fresh(t, disks, sizeOf(g))
	labels(t, a, upTo(disks), api.OK)
	c.ahead(t, a, g)
	a.CrashAfter(left)
	err := c.do(a, g)
	if want := left > disks*len(c.places); want && err != api.OK || !want && err != api.ErrCrashed {
		t.Fatalf("behind %d writes it answers %d", left, err)
	}
	a.Restart(keeps(kept, disks, c.places))
	for i, disk := range chosen(hurt, disks) {
		hurts(t, a, disk, way+i*(way/4))
	}
	return asked(t, a, g), err == api.OK
}

// holdsAlways asks that a call that was done is told, and one that was cut whole or not at all, as long as one disk is unhurt.
func (c call) holdsAlways(t *testing.T, disks int) {
	t.Helper()
	seen := map[bool]int{}
	for left := range disks*len(c.places) + 2 {
		for kept := range 1 << (disks * len(c.places)) {
			for hurt := range 1<<disks - 1 {
				for way := range 8 {
					got, done := c.cut(t, disks, left, kept, hurt, way)
					is := got.is(c.behind)
					if !is && (done || !got.is(c.before)) {
						t.Fatalf("cut behind %d writes, %b kept, %b hurt: %.300v is told, want %.300v", left, kept, hurt, got, c.behind)
					}
					seen[is]++
					if hurt == 0 {
						break
					}
				}
			}
		}
	}
	if seen[true] == 0 || seen[false] == 0 {
		t.Fatalf("told %v", seen)
	}
}

// P18.5: an Append, with the power gone at each of its writes, any of what waited kept, and any disks but one hurt.
func TestAppendLasts(t *testing.T) {
	for disks := 1; disks <= 3; disks++ {
		for count := range 3 {
			for _, elder := range []bool{false, true} {
				appendsTo(count, elder).holdsAlways(t, disks)
			}
		}
	}
}

// P18.5: a Save, with the power gone at each of its writes, any of what waited kept, and any disks but one hurt.
func TestSaveLasts(t *testing.T) {
	for disks := 1; disks <= 3; disks++ {
		for area := range 2 {
			savesTo(area, []api.Object{object("a", 2, 1, 0)}).holdsAlways(t, disks)
		}
	}
	for area := range 2 {
		savesTo(area, manyObjects(maxObjects, maxKey, 0)).holdsAlways(t, 1)
	}
}

// P18.5: which of the two is told in plain numbers: an Append is there if one disk kept it, a Save if each of its sectors was kept on one.
func TestCutIsToldIfKept(t *testing.T) {
	c := appendsTo(1, false)
	for kept := range 1 << 3 {
		if got, _ := c.cut(t, 3, 3, kept, 0, 0); got.is(c.behind) != (kept != 0) {
			t.Fatalf("%b kept: %v is told", kept, got)
		}
	}
	c = savesTo(1, []api.Object{object("a", 2, 1, 0)})
	for kept := range 1 << 6 {
		both := kept&0b010101 != 0 && kept&0b101010 != 0
		if got, _ := c.cut(t, 3, 6, kept, 0, 0); got.is(c.behind) != both {
			t.Fatalf("%b kept: %v is told", kept, got)
		}
	}
}

// life is disks that go on through crashes and faults, and what they should hold.
type life struct {
	t    *testing.T
	a    *array.Array
	g    api.Geometry
	draw func(n int) int
	safe int // the disk that is never hurt
	now  told
}

// fault hurts a disk, or a sector of one.
func (l *life) fault() {
	disk := l.draw(len(l.a.Live()))
	if disk == l.safe {
		return
	}
	switch l.draw(6) {
	case 0:
		l.a.Fail(disk)
	case 1:
		l.a.Replace(disk)
	default:
		place := l.draw(5 + l.g.Slots)
		b := snapshot(l.a).sides[disk]
		newest, waits := b.waits[place]
		if !waits {
			newest = b.lasts[place]
		}
		// A byte that is changed twice might be what it was.
		if _, _, is := unframed(place, newest); is {
			spoils(l.t, l.a, disk, place, l.draw(40))
		}
	}
}

// next is a call, and what should be told behind it: a record more, or a checkpoint in the other area.
func (l *life) next() (api.Errno, told) {
	base, count := l.now.saved.Epoch, len(l.now.records)
	if count < l.g.Slots && (count == 0 || l.draw(8) > 0) {
		r := put("key", l.draw(1000), upTo(l.draw(4))...)
		if l.draw(3) == 0 {
			r = del("key")
		}
		return metalog.Append(l.a, l.g, base, count, r), told{l.now.saved, append(slices.Clone(l.now.records), r)}
	}
	// What a store holds at an epoch is one: a Save that was cut is done again with the same objects.
	s := checkpoint(1-l.now.saved.Area, base+count, someObjects()[(base+count)%4]...)
	return metalog.Save(l.a, l.g, s), told{s, nil}
}

// restart lets the power come, with some of what waited, and more faults.
func (l *life) restart() {
	keep := make([][]int, len(l.a.Live()))
	for i := range keep {
		keep[i] = slices.DeleteFunc(upTo(sizeOf(l.g)), func(int) bool { return l.draw(2) == 0 })
	}
	l.a.Restart(keep)
	l.fault()
}

// mend brings what is told to all disks, lest it be on one alone that is hurt then.
func (l *life) mend() {
	places := []int{areaPlace(l.now.saved.Area, 0), areaPlace(l.now.saved.Area, 1)}
	if n := len(l.now.records); n > 0 {
		places = append(places, slotPlace(n-1))
	}
	for _, place := range places {
		if _, err := vote.Mend(l.a, nil, place); err != api.OK {
			l.t.Fatalf("Mend(%d) = %d", place, err)
		}
	}
	flushes(l.t, l.a)
}

// step does a call, that a crash may cut, and asks what is told.
func (l *life) step() {
	l.t.Helper()
	l.fault()
	l.a.CrashAfter(l.draw(16) - 4)
	err, behind := l.next()
	if err != api.OK && err != api.ErrCrashed {
		l.t.Fatalf("a call answers %d", err)
	}
	l.restart()
	got := asked(l.t, l.a, l.g)
	if !got.is(behind) && (err == api.OK || !got.is(l.now)) {
		l.t.Fatalf("told is %v, want %v, ahead it was %v", got, behind, l.now)
	}
	l.now = got
	l.mend()
}

// P18.5: long lives: crash behind crash, and all disks but one hurt again and again.
func TestLives(t *testing.T) {
	for seed := range 150 {
		disks := 1 + seed%4
		g := slots(1 + seed%5)
		l := &life{t: t, a: fresh(t, disks, sizeOf(g)), g: g, draw: drawer(seed), safe: seed % 3 % disks}
		labels(t, l.a, upTo(disks), api.OK)
		saves(t, l.a, g, checkpoint(0, 0), api.OK)
		for range 60 {
			l.step()
		}
	}
}
