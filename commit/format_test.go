package commit_test

import (
	"testing"

	"aumbry/api"
	"aumbry/array"
	"aumbry/commit"
	"aumbry/gf"
)

// begin is Format or Recover.
type begin func(a *array.Array, f *gf.Field, g api.Geometry) (*commit.Store, api.Errno)

var begins = map[string]begin{"Format": commit.Format, "Recover": commit.Recover}

// formatted is what a disk holds behind Format, if it held nothing ahead of it.
func formatted() sectors {
	return sectors{0: framed(0, 0, "L"), 1: framed(1, 0, "\x00\x00"), 2: framed(2, 0, "")}
}

// refused asks that both calls answer an error, and leave the disks alone.
func refused(t *testing.T, what string, a *array.Array, f *gf.Field, g api.Geometry, want api.Errno) {
	t.Helper()
	for name, begin := range begins {
		before := snapshot(a)
		if s, err := begin(a, f, g); s != nil || err != want {
			t.Errorf("%s of %s, %+v = %v, %d, want %d", name, what, g, s != nil, err, want)
		}
		if !sameShot(snapshot(a), before) {
			t.Errorf("%s of %s, %+v has changed the disks", name, what, g)
		}
	}
}

// P20.1: a store without objects, base 0, count 0; on each disk the label and an empty checkpoint in the area 0 last, and nothing else.
func TestFormat(t *testing.T) {
	for _, g := range geometries() {
		b := made(t, g)
		b.isAt(0, 0, 0)
		b.has()
		b.lists()
		b.gets("a", "", api.ErrNotFound)
		for disk, d := range snapshot(b.a).sides {
			want := side{lasts: formatted(), waits: sectors{}, live: true}
			if !sameShot(shot{sides: []side{d}}, shot{sides: []side{want}}) {
				t.Errorf("%+v: disk %d: %v", g, disk, d)
			}
		}
	}
}

// P20.1: no disks, or no field: ErrArg, ahead of a geometry that may not be.
func TestNone(t *testing.T) {
	for _, g := range append(badGeometries(), example) {
		refused(t, "no disks", nil, field, g, api.ErrArg)
		refused(t, "no field", disksOf(t, example), nil, g, api.ErrArg)
		refused(t, "nothing", nil, nil, g, api.ErrArg)
		refused(t, "no field, and too few disks", fresh(t, 2, 20), nil, g, api.ErrArg)
	}
}

// P20.1: a geometry that may not be: ErrConfig, whatever disks there are, powered or not.
func TestBadGeometry(t *testing.T) {
	down := disksOf(t, example)
	down.CrashAfter(0)
	for _, g := range badGeometries() {
		refused(t, "three disks", disksOf(t, example), field, g, api.ErrConfig)
		refused(t, "one disk", fresh(t, 1, 1), field, g, api.ErrConfig)
		refused(t, "an array without disks", &array.Array{}, field, g, api.ErrConfig)
		refused(t, "disks without power", down, field, g, api.ErrConfig)
	}
}

// P20.1: not K + M disks: ErrArg, powered or not.
func TestDisksThatDoNotFit(t *testing.T) {
	for _, g := range geometries() {
		for disks := range maxDisks + 1 {
			if disks == g.K+g.M {
				continue
			}
			a := &array.Array{}
			if disks > 0 {
				a = fresh(t, disks, sizeOf(g))
			}
			refused(t, "other disks", a, field, g, api.ErrArg)
			a.CrashAfter(0)
			refused(t, "other disks, without power", a, field, g, api.ErrArg)
		}
	}
}

// P20.1: with one disk fewer, or more, a store that there is isn't recovered, nor its disks formatted.
func TestOneDiskBeside(t *testing.T) {
	for _, g := range []api.Geometry{{K: 1, M: 1, Size: 2, Stripes: 4, Slots: 2, Objects: 3}, {K: 2, M: 2, Size: 2, Stripes: 4, Slots: 2, Objects: 3}} {
		b := made(t, example)
		b.puts("a", "hello", api.OK)
		refused(t, "three disks", b.a, field, g, api.ErrArg)
	}
}

// P20.1: Save's error: no disk took it. What was written ahead of that stays.
func TestFormatWithoutDisks(t *testing.T) {
	b := blank(t, example, sizeOf(example))
	for disk := range 3 {
		b.fail(disk)
	}
	b.formats(api.ErrDamaged)
	b.recovers(api.ErrDamaged)
	b.replace(1)
	b.formats(api.OK)
	b.recovers(api.OK)
	b.puts("a", "", api.OK)
	b.gets("a", "", api.OK)
}

// P20.1: disks that have too few sectors for the label and the area are refused by Save alone; others are taken.
func TestFormatOfSmallDisks(t *testing.T) {
	for size := 1; size <= sizeOf(example); size++ {
		b := blank(t, example, size)
		want := api.OK
		if size < 3 {
			want = api.ErrDamaged
		}
		b.formats(want)
		if size < 3 {
			continue
		}
		b.isAt(0, 0, 0)
		// Without a slot no disk takes a record; without its stripe an object is lost at once.
		put, got, data := api.OK, api.ErrDamaged, ""
		if size < 6 {
			put, got = api.ErrDamaged, api.ErrNotFound
		}
		if size > 8 {
			got, data = api.OK, "hello"
		}
		b.puts("a", "hello", put)
		b.gets("a", data, got)
	}
}

// P20.1: the power's going is told, at each write, and behind the last one by the flush; there is no store then.
func TestFormatCrashes(t *testing.T) {
	for writes := range 12 {
		b := blank(t, example, sizeOf(example))
		b.crashAfter(writes)
		want := api.ErrCrashed
		if writes > 9 {
			want = api.OK
		}
		b.formats(want)
		if writes > 9 {
			b.puts("a", "", api.ErrCrashed)
		}
	}
}

// P20.1: what disks held beside the label and the area 0 stays as it was, and what waited of it lasts.
func TestFormatOverOthers(t *testing.T) {
	for _, flushed := range []bool{false, true} {
		b := blank(t, example, sizeOf(example)+2)
		b.disks(func(a *array.Array) {
			for disk := range 3 {
				for place := range sizeOf(example) + 2 {
					a.Write(disk, place, []byte(text(place+1, disk)))
				}
			}
			if flushed {
				a.Flush()
			}
		})
		b.formats(api.OK)
		for disk, d := range snapshot(b.a).sides {
			want := formatted()
			for place := 3; place < sizeOf(example)+2; place++ {
				want[place] = text(place+1, disk)
			}
			if !sameShot(shot{sides: []side{d}}, shot{sides: []side{{want, sectors{}, true, 0}}}) {
				t.Errorf("disk %d: %v", disk, d)
			}
		}
		b.puts("a", "hello", api.OK)
		b.gets("a", "hello", api.OK)
		b.puts("b", "12345678", api.OK)
		b.gets("b", "12345678", api.OK)
	}
}

// P20.1: formatted anew, a store holds nothing, whatever it held, and goes on from the base 0.
func TestFormatAnew(t *testing.T) {
	for calls := range 8 {
		b := made(t, example)
		for i := range calls {
			b.puts(keyOf(i%3), text(4, i), api.OK)
		}
		elder := snapshot(b.a)
		b.formats(api.OK)
		b.isAt(0, 0, 0)
		b.lists()
		b.asksAll("k000", "a")
		for disk, d := range snapshot(b.a).sides {
			want := elder.sides[disk]
			for place, bytes := range formatted() {
				want.lasts[place] = bytes
			}
			if !sameShot(shot{sides: []side{d}}, shot{sides: []side{want}}) {
				t.Errorf("%d calls: disk %d: %v, want %v", calls, disk, d, want)
			}
		}
		b.puts("a", "hello", api.OK)
		b.gets("a", "hello", api.OK)
		b.isAt(0, 0, 1)
		b.recover() // what it tells of the elder records is the words': the model's
	}
}

// P20.1: a store that another was formatted over goes on as it was told; the disks are its own, as the other's.
func TestTwoStores(t *testing.T) {
	g := example
	a, other := disksOf(t, g), disksOf(t, g)
	s, _ := commit.Format(a, field, g)
	v, _ := commit.Format(other, field, g)
	if err := s.Put("a", []byte("one")); err != api.OK {
		t.Fatal(err)
	}
	if _, err := v.Get("a"); err != api.ErrNotFound {
		t.Errorf("%d", err)
	}
	if err := v.Put("a", []byte("other")); err != api.OK {
		t.Fatal(err)
	}
	if d, err := s.Get("a"); string(d) != "one" || err != api.OK {
		t.Errorf("%q, %d", d, err)
	}
}
