package metalog_test

import (
	"math"
	"slices"
	"strings"
	"testing"

	"aumbry/api"
	"aumbry/array"
	"aumbry/metalog"
)

// drawer draws numbers below n, which hang on a seed alone.
func drawer(seed int) func(n int) int {
	x := uint32(seed)*2654435761 + 99
	return func(n int) int {
		x ^= x << 13
		x ^= x >> 17
		x ^= x << 5
		return int(x>>3) % n
	}
}

// R1: at all numbers, lists and structures the calls end, and panic at nothing.
func TestNoPanics(t *testing.T) {
	numbers := []int{0, 1, -1, 2, 64, 65, 4096, maxBase, maxNumber, maxNumber + 1, 1 << 62, math.MinInt, math.MaxInt}
	geometries := append(wrongGeometries(), slots(2), slots(maxSlots))
	for _, n := range numbers {
		for _, m := range numbers {
			for _, a := range []*array.Array{nil, {}, fresh(t, 2, 4), fresh(t, 2, 9)} {
				for _, g := range append(geometries, api.Geometry{K: n, M: m, Size: n, Stripes: m, Slots: n, Objects: m}) {
					metalog.Append(a, g, n, m, put("a", n, m))
					metalog.Append(a, g, 0, 0, api.Record{Kind: n, Key: strings.Repeat("k", 100), Length: m, Stripes: []int{n, m}})
					metalog.Replay(a, g, []bool{true}, n)
					metalog.Save(a, g, checkpoint(n, m, object("a", n, m, n)))
					metalog.Save(a, g, checkpoint(0, n, object("a", 0, 0), object("", m, n)))
					metalog.Latest(a, g, make([]bool, 100))
				}
				metalog.Label(a, []int{n, m})
				metalog.Knows(a)
			}
		}
	}
}

// R3: calls that answer an error of what they are given bring a crash that is to come no nearer.
func TestErrorsCountNoWrites(t *testing.T) {
	g := slots(2)
	a := fresh(t, 2, sizeOf(g))
	saves(t, a, g, checkpoint(0, 0), api.OK)
	lays(t, a, 0, 8, "waits")
	a.CrashAfter(1)
	before := snapshot(a)
	for range 3 {
		appends(t, a, g, -1, 0, put("a", 0), api.ErrArg)
		appends(t, a, g, 0, 0, api.Record{}, api.ErrArg)
		appends(t, a, g, 0, 2, put("a", 0), api.ErrLogFull)
		appends(t, a, api.Geometry{}, 0, 0, put("a", 0), api.ErrConfig)
		saves(t, a, g, checkpoint(2, 0), api.ErrArg)
		saves(t, a, g, checkpoint(0, -1), api.ErrArg)
		saves(t, a, g, checkpoint(0, 0, api.Object{}), api.ErrArg)
		saves(t, a, api.Geometry{}, checkpoint(0, 0), api.ErrConfig)
		replayFails(t, a, g, nil, 0, api.ErrDamaged)
		latestFails(t, a, g, nil, api.ErrDamaged)
		latest(t, a, g, knowing(2), checkpoint(0, 0))
		knows(t, a, false, false)
	}
	holds(t, "behind calls that write nothing", a, before)
	lays(t, a, 0, 1, "x")
	if !a.Down() {
		t.Fatal("the power is there")
	}
}

// spoil writes over all that a list holds, spare room too.
func spoil[E any](list []E, with E) {
	room := list[:cap(list)]
	for i := range room {
		room[i] = with
	}
}

// roomy is a list with spare room ahead and behind, in which nobody may write; behind a call it should be as it was.
type roomy[E comparable] struct {
	whole, before []E
	from, length  int
}

func withRoom[E comparable](with E, list ...E) roomy[E] {
	whole := slices.Concat([]E{with, with}, list, slices.Repeat([]E{with}, 3*len(list)+40))
	return roomy[E]{whole, slices.Clone(whole), 2, len(list)}
}

func (r roomy[E]) list() []E { return r.whole[r.from : r.from+r.length] }

func (r roomy[E]) isAsItWas() bool { return slices.Equal(r.whole, r.before) }

// R4: the list of disks that are labelled is left as it was, spare room too, and not kept.
func TestLabelMemory(t *testing.T) {
	a := fresh(t, 4, 8)
	disks := withRoom(3, 2, 0, 2)
	labels(t, a, disks.list(), api.OK)
	if !disks.isAsItWas() {
		t.Fatalf("the list is %v now", disks.whole)
	}
	spoil(disks.whole, 1)
	knows(t, a, true, false, true, false)
	// No two disks share a label.
	spoils(t, a, 0, 0, 8)
	knows(t, a, false, false, true, false)
}

// R4: what Knows answers lies in memory of its own.
func TestKnowsMemory(t *testing.T) {
	a := fresh(t, 3, 8)
	labels(t, a, []int{1}, api.OK)
	first, _ := metalog.Knows(a)
	second, _ := metalog.Knows(a)
	spoil(first, true)
	if !slices.Equal(second, []bool{false, true, false}) {
		t.Fatalf("two answers share memory: %v", second)
	}
	spoil(second, false)
	knows(t, a, false, true, false)
}

// R4: a record's stripes are left as they were, spare room too, and not kept; no two disks share what was written.
func TestAppendMemory(t *testing.T) {
	g := slots(2)
	for _, n := range []int{0, 1, 5, maxStripes} {
		a := fresh(t, 3, sizeOf(g))
		stripes := withRoom(77, upTo(n)...)
		appends(t, a, g, 5, 0, put("a", 9, stripes.list()...), api.OK)
		if !stripes.isAsItWas() {
			t.Fatalf("the stripes are %v now", stripes.whole)
		}
		spoil(stripes.whole, 0)
		replays(t, a, g, knowing(3), 5, put("a", 9, upTo(n)...))
		want := snapshot(a)
		b := []byte(want.sides[1].lasts[5])
		b[8] ^= 0x10
		want.sides[1].lasts[5] = string(b)
		spoils(t, a, 1, 5, 8)
		holds(t, "behind a changed byte", a, want)
	}
}

// R4: objects, and their stripes, are left as they were, spare room too, and not kept.
func TestSaveMemory(t *testing.T) {
	g := slots(1)
	for _, n := range []int{0, 1, 7, 100} {
		a := fresh(t, 2, sizeOf(g))
		one, other := withRoom(77, upTo(n)...), withRoom(88, upTo(2 * n)[n:]...)
		room := make([]api.Object, 9)
		spoil(room, object("room", 1, 2, 3))
		copy(room[2:], []api.Object{object("a", 1, 2, one.list()...), object("b", 3, 4, other.list()...)})
		saves(t, a, g, checkpoint(1, 5, room[2:4]...), api.OK)
		if !one.isAsItWas() || !other.isAsItWas() {
			t.Fatalf("the stripes are %v, %v now", one.whole, other.whole)
		}
		for i, o := range room {
			if i != 2 && i != 3 && !sameObject(o, object("room", 1, 2, 3)) {
				t.Fatalf("the objects are %v now", room)
			}
		}
		if o, p := room[2], room[3]; o.Key != "a" || o.Length != 1 || o.Epoch != 2 || len(o.Stripes) != n || p.Key != "b" || p.Length != 3 || p.Epoch != 4 || len(p.Stripes) != n {
			t.Fatalf("the objects are %v now", room)
		}
		spoil(one.whole, 0)
		spoil(other.whole, 0)
		spoil(room, api.Object{})
		latest(t, a, g, knowing(2), checkpoint(1, 5, object("a", 1, 2, upTo(n)...), object("b", 3, 4, upTo(2 * n)[n:]...)))
	}
}

// R4: the list of disks that know is left as it was, spare room too: what lies behind it says nothing.
func TestKnowListMemory(t *testing.T) {
	g := slots(2)
	a := fresh(t, 3, sizeOf(g))
	saves(t, a, g, checkpoint(0, 5), api.OK)
	appends(t, a, g, 5, 0, put("a", 0), api.OK)
	a.Fail(0)
	for _, with := range []bool{false, true} {
		for length := range 4 {
			know := withRoom(with, slices.Repeat([]bool{length > 2}, length)...)
			if length > 2 {
				replays(t, a, g, know.list(), 5, put("a", 0))
				latest(t, a, g, know.list(), checkpoint(0, 5))
			} else {
				replayFails(t, a, g, know.list(), 5, api.ErrDamaged)
				latestFails(t, a, g, know.list(), api.ErrDamaged)
			}
			if !know.isAsItWas() {
				t.Fatalf("the list is %v now", know.whole)
			}
		}
	}
}

// R4: what Replay answers lies in memory of its own, spare room too: no two records share any, nor two answers, nor the disks.
func TestReplayMemory(t *testing.T) {
	for n := 1; n <= 6; n++ {
		l := []api.Record{put("a", 1, 1), put("b", 2, 2, 3), del("a"), put("c", 3, 4, 5, 6), put("d", 9, upTo(100)...), put("e", 5, 7)}[:n]
		a, g := journal(t, 2, 6, 5, upTo(2), l...)
		before := snapshot(a)
		first, _ := metalog.Replay(a, g, knowing(2), 5)
		second, _ := metalog.Replay(a, g, knowing(2), 5)
		for i := range first {
			spoil(first[i].Stripes, 200+i)
		}
		for i, r := range first {
			if slices.ContainsFunc(r.Stripes, func(stripe int) bool { return stripe != 200+i }) {
				t.Fatalf("two records share memory: %v", first)
			}
		}
		spoil(first, api.Record{})
		if !slices.EqualFunc(second, l, sameRecord) {
			t.Fatalf("two answers share memory: %v", second)
		}
		holds(t, "behind a change of what was replayed", a, before)
		for disk := range 2 {
			a.Replace(disk)
		}
		if !slices.EqualFunc(second, l, sameRecord) {
			t.Fatalf("an answer has changed: %v", second)
		}
	}
}

// R4: what Latest answers lies in memory of its own, spare room too.
func TestLatestMemory(t *testing.T) {
	for _, l := range someObjects() {
		a, g := saveds(t, 2, checkpoint(0, 4), checkpoint(1, 5, l...))
		before := snapshot(a)
		first, _ := metalog.Latest(a, g, knowing(2))
		second, _ := metalog.Latest(a, g, knowing(2))
		for i := range first.Objects {
			spoil(first.Objects[i].Stripes, 300+i)
		}
		for i, o := range first.Objects {
			if slices.ContainsFunc(o.Stripes, func(stripe int) bool { return stripe != 300+i }) {
				t.Fatal("two objects share memory")
			}
		}
		spoil(first.Objects, api.Object{})
		if !sameSaved(second, checkpoint(1, 5, l...)) {
			t.Fatalf("two answers share memory: %.200v", second)
		}
		holds(t, "behind a change of what was told", a, before)
	}
}

// R5: nothing is kept between calls, nor between two arrays or geometries.
func TestTwoArrays(t *testing.T) {
	one, g := journal(t, 3, 3, 9, upTo(3), put("one", 1))
	saves(t, one, g, checkpoint(0, 9), api.OK)
	before := snapshot(one)
	other, h := journal(t, 2, 2, 5, []int{1}, del("other"), del("other"))
	saves(t, other, h, checkpoint(1, 5, object("x", 1, 1)), api.OK)
	other.CrashAfter(0)
	saves(t, other, h, checkpoint(0, 6), api.ErrCrashed)
	labels(t, other, []int{0}, api.ErrCrashed)
	holds(t, "behind calls with another array", one, before)
	replays(t, one, g, knowing(3), 9, put("one", 1))
	latest(t, one, g, knowing(3), checkpoint(0, 9))
	other.Restart(nil)
	replays(t, other, h, nil, 5, del("other"), del("other"))
	latest(t, other, h, []bool{false, true}, checkpoint(1, 5, object("x", 1, 1)))
	// Where slots lie hangs on no geometry; how many there are does.
	replays(t, one, slots(1), nil, 9, put("one", 1))
}

// run is disks that long runs of calls go over, with the writes left ahead of a crash.
type run struct {
	a    *array.Array
	g    api.Geometry
	draw func(n int) int
	left int
}

// disturb does something to disks that no call of metalog does.
func (r *run) disturb() {
	disks := len(r.a.Live())
	disk := r.draw(disks)
	switch r.draw(10) {
	case 0:
		r.a.Fail(disk)
	case 1:
		r.a.Replace(disk)
	case 2, 3:
		r.a.Corrupt(disk, r.draw(sizeOf(r.g)), r.draw(30), byte(r.draw(256)))
	case 4:
		if !r.a.Down() {
			r.left = r.draw(20) - 3
			r.a.CrashAfter(r.left)
		}
	case 5:
		r.a.Write(disk, r.draw(8), []byte(framed(r.draw(8), r.draw(5), "")))
		r.restart()
	default:
		if r.a.Down() {
			r.restart()
		}
	}
}

func (r *run) restart() {
	keep := make([][]int, r.draw(len(r.a.Live())+1))
	for i := range keep {
		keep[i] = slices.DeleteFunc(upTo(sizeOf(r.g)), func(int) bool { return r.draw(2) == 0 })
	}
	r.a.Restart(keep)
	r.left = -1
}

// call does one of the calls that write, held against the chapter's words.
func (r *run) call(t *testing.T, m *model) {
	t.Helper()
	base := r.draw(4) - r.draw(20)/19
	switch r.draw(5) {
	case 0:
		asLabels(t, r.a, m, slices.DeleteFunc(upTo(len(r.a.Live())+1), func(int) bool { return r.draw(2) == 0 }))
	case 1, 2:
		l := append(someRecords(), wrongRecords()[r.draw(20)])
		asAppends(t, r.a, m, r.g, base, r.draw(r.g.Slots+1), l[r.draw(len(l))])
	case 3:
		l := append(someObjects()[:4], wrongObjects()[r.draw(15)])
		asSaves(t, r.a, m, r.g, checkpoint(r.draw(2), base, l[r.draw(len(l))]...))
	}
	r.left = m.left
}

// P18.1 to P18.4: long runs of calls on disks that fail, lose bytes and their power, held against the chapter's words at each.
func TestRunsOfCalls(t *testing.T) {
	for seed := range 100 {
		r := &run{g: slots(1 + seed%3), draw: drawer(seed), left: -1}
		disks := 1 + seed%4
		r.a = fresh(t, disks, sizeOf(r.g)-seed/90*6)
		for range 120 {
			r.disturb()
			m := modelOf(r.a, sizeOf(r.g)-seed/90*6, r.left)
			r.call(t, m)
			know := slices.Repeat([]bool{false}, r.draw(disks+2))
			for i := range know {
				know[i] = r.draw(3) > 0
			}
			asKnows(t, r.a, m)
			asReplays(t, r.a, m, r.g, know, r.draw(4))
			asLatest(t, r.a, m, r.g, know)
		}
	}
}
