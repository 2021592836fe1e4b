package commit_test

import (
	"math"
	"slices"
	"strings"
	"testing"

	"aumbry/api"
	"aumbry/array"
	"aumbry/catalog"
	"aumbry/commit"
	"aumbry/gf"
)

// ruleKeys are keys of all kinds, those that may not be too.
var ruleKeys = []string{"a", "", "none", "\x00", longKey(64), longKey(65), longKey(1 << 16)}

// R1: no store: ErrArg, ahead of a bad key, or zero values.
func TestNilStore(t *testing.T) {
	var s *commit.Store
	for _, key := range ruleKeys {
		put, del := s.Put(key, []byte("x")), s.Delete(key)
		d, get := s.Get(key)
		n, stat := s.Stat(key)
		if put != api.ErrArg || del != api.ErrArg || get != api.ErrArg || stat != api.ErrArg || len(d) != 0 || n != 0 {
			t.Errorf("%.20q: %d, %d, %q, %d, %d, %d", key, put, del, d, get, n, stat)
		}
	}
	if l, err := s.List(); len(l) != 0 || err != api.ErrArg {
		t.Errorf("List = %q, %d", l, err)
	}
	if st, n := s.State(); st.Area != 0 || st.Epoch != 0 || len(st.Objects) != 0 || n != 0 {
		t.Errorf("State = %v, %d", st, n)
	}
	if a, f, g := s.Disks(); a != nil || f != nil || g != (api.Geometry{}) {
		t.Errorf("Disks = %p, %p, %v", a, f, g)
	}
}

// tellsAll makes all calls of a store, which end; nothing stands beside an error.
func tellsAll(t *testing.T, what string, s *commit.Store) {
	t.Helper()
	for range 3 {
		for _, key := range ruleKeys {
			for _, n := range []int{0, 1, 4, 5, 17, 5000} {
				s.Put(key, make([]byte, n))
			}
			if d, err := s.Get(key); err != api.OK && len(d) != 0 {
				t.Errorf("%s: Get = %q, %d", what, d, err)
			}
			if n, err := s.Stat(key); err != api.OK && n != 0 {
				t.Errorf("%s: Stat = %d, %d", what, n, err)
			}
			s.Delete(key)
			s.Put(key, []byte("hello"))
		}
		if l, err := s.List(); err != api.OK && len(l) != 0 {
			t.Errorf("%s: List = %q, %d", what, l, err)
		}
		s.State()
		s.Disks()
	}
}

// R1: a hand-made store, which has no disks and no catalog: no object is in it, and none is taken.
func TestHandMade(t *testing.T) {
	s := &commit.Store{}
	tellsAll(t, "an empty one", s)
	if err := s.Put("a", nil); err == api.OK {
		t.Errorf("Put = %d", err)
	}
	if err := s.Put("", nil); err != api.ErrBadKey {
		t.Errorf("Put of an empty key = %d", err)
	}
	if l, err := s.List(); len(l) != 0 || err != api.OK {
		t.Errorf("List = %q, %d", l, err)
	}
	if a, f, g := s.Disks(); a != nil || f != nil || g != (api.Geometry{}) {
		t.Errorf("Disks = %p, %p, %v", a, f, g)
	}
}

// R1: a store whose catalog was put in its place by hand, of the same geometry or of any other; and one whose catalog was told past it.
func TestOtherCatalogs(t *testing.T) {
	var catalogs []*catalog.Catalog
	for _, g := range geometries() {
		for _, l := range [][]api.Object{nil, {object("a", 1, 1, 0)}, {object("a", partOf(g)*g.Stripes, 1, upTo(g.Stripes)...)}, {object("none", 0, maxNumber)}} {
			c, err := catalog.New(g, l)
			if err != api.OK {
				t.Fatal(err)
			}
			catalogs = append(catalogs, c)
		}
	}
	for _, c := range append(catalogs, nil, &catalog.Catalog{}) {
		tellsAll(t, "one without disks", &commit.Store{Catalog: c})
		for _, g := range geometries()[:5] {
			s, err := commit.Format(disksOf(t, g), field, g)
			if err != api.OK {
				t.Fatal(err)
			}
			s.Put("a", []byte("x"))
			s.Catalog = c
			tellsAll(t, "one of another catalog", s)
		}
	}
	b := made(t, example)
	b.s.Apply(putOf("a", 5, 0, 1), 77)
	tellsAll(t, "one that was told past it", b.s)
}

// R1: a hand-made array, which has no disks, and a hand-made field.
func TestHandMadeParts(t *testing.T) {
	for _, g := range append(badGeometries(), geometries()...) {
		for name, begin := range begins {
			if s, err := begin(&array.Array{}, &gf.Field{}, g); s != nil || err != api.ErrArg && err != api.ErrConfig {
				t.Errorf("%s = %v, %d", name, s != nil, err)
			}
		}
	}
	s, err := commit.Format(disksOf(t, example), &gf.Field{}, example)
	if err == api.OK {
		tellsAll(t, "one of an empty field", s)
	}
}

// R1: whatever lies on the disks Recover ends, and so does what follows.
func TestRecoverOfAnything(t *testing.T) {
	for seed := range 300 {
		b := made(t, example)
		for i := range seed % 7 {
			b.put(keyOf(i%3), text(i, i))
		}
		b.disks(func(a *array.Array) {
			for disk := range 3 {
				for place := range sizeOf(example) {
					switch n := (seed*31 + disk*17 + place*7 + seed/5) % 23; {
					case n < 3:
						a.Write(disk, place, []byte(text(1+n*4, seed)))
					case n == 4:
						a.Write(disk, place, []byte(framed(place, seed%5, recordBytes(putOf("a", seed%9, seed%4)))))
					case n == 5:
						a.Write(disk, place, []byte(framed(place, maxNumber-seed%3, "")))
					case n == 6:
						a.Write(disk, place, []byte(framed(place, seed%4, recordBytes(delOf("k000")))))
					}
				}
			}
		})
		if b.recover() == api.OK {
			b.asksAll(ruleKeys...)
			b.put("a", "hello")
			b.remove("k001")
			b.asksAll(ruleKeys...)
			tellsAll(t, "one of anything", b.s)
		}
	}
}

// R1: long texts and lists.
func TestLong(t *testing.T) {
	b := made(t, example)
	big := make([]byte, 1<<24)
	if err := b.s.Put("a", big); err != api.ErrNoSpace {
		t.Errorf("%d", err)
	}
	if err := b.s.Put(strings.Repeat("k", 1<<24), big); err != api.ErrBadKey {
		t.Errorf("%d", err)
	}
	b.stands()
}

// R2: what stands beside an error is nothing, whatever the error is.
func TestNothingBesideErrors(t *testing.T) {
	b := made(t, example)
	b.puts("a", text(12, 1), api.OK)
	b.fail(0)
	b.corrupt(1, 9, 0, 1)
	b.gets("a", "", api.ErrDamaged) // the first two parts can be read
	if d, err := b.s.Get("a"); len(d) != 0 || err != api.ErrDamaged {
		t.Errorf("Get = %q, %d", d, err)
	}
	b.crashAfter(0)
	if d, err := b.s.Get("a"); len(d) != 0 || err != api.ErrCrashed {
		t.Errorf("Get = %q, %d", d, err)
	}
	b.m.get("a")
	b.allCrashed()
}

// R3: a call that is refused has changed nothing of what the store and the disks tell, ahead of Recover and behind it.
func TestErrorsChangeNothing(t *testing.T) {
	for count := range 5 {
		b := made(t, example)
		for i := range count {
			b.puts(keyOf(i%2), text(2+i, i), api.OK)
		}
		before := snapshot(b.a)
		state, n := b.s.State()
		for _, tell := range []func() api.Errno{
			func() api.Errno { return b.put("", "x") },
			func() api.Errno { return b.put(longKey(65), "x") },
			func() api.Errno { return b.put("z", text(17, 1)) },
			func() api.Errno { return b.remove("") },
			func() api.Errno { return b.remove("z") },
			func() api.Errno { _, err := b.get("z"); return err },
			func() api.Errno { _, err := b.stat("z"); return err },
		} {
			if tell() == api.OK {
				t.Fatal("not refused")
			}
			s, m := b.s.State()
			if !sameSaved(s, state) || m != n || !sameShot(snapshot(b.a), before) {
				t.Fatalf("%d calls: something has changed", count)
			}
		}
		b.recovers(api.OK)
		b.keepsWord()
	}
}

// roomy is a copy of bytes with others on both sides; all of it is told by whole.
func roomy(d []byte) (inner, whole []byte) {
	whole = slices.Concat([]byte{7, 7}, d, []byte{7, 7, 7, 7, 7, 7, 7, 7, 7})
	return whole[2 : 2+len(d)], whole
}

// spoil writes over all that a list holds, spare room too.
func spoil[T any](l []T, with T) {
	room := l[:cap(l)]
	for i := range room {
		room[i] = with
	}
}

// R4: what is put is left as it was, its spare room too, by an OK and by an error, and is not kept.
func TestPutMemory(t *testing.T) {
	for _, n := range []int{0, 1, 3, 4, 5, 8, 15, 16, 17} {
		b := made(t, example)
		data, whole := roomy([]byte(text(n, 1)))
		before := slices.Clone(whole)
		err := b.s.Put("a", data)
		if b.m.put("a", text(n, 1)) != err {
			t.Fatalf("Put = %d", err)
		}
		if !slices.Equal(whole, before) {
			t.Errorf("%d bytes: what was put has changed", n)
		}
		spoil(whole, 9)
		if err == api.OK {
			b.gets("a", text(n, 1), api.OK)
			b.recovers(api.OK)
			b.gets("a", text(n, 1), api.OK)
		}
		b.stands()
	}
}

// R4: what is got, listed and told lies in memory of its own: neither the store nor another answer changes with it.
func TestAnswersMemory(t *testing.T) {
	b := made(t, example)
	b.puts("a", "hello", api.OK)
	b.puts("b", "1234", api.OK)
	b.puts("c", "", api.OK)
	for range 2 {
		for key, want := range map[string]string{"a": "hello", "b": "1234", "c": ""} {
			first, _ := b.s.Get(key)
			second, _ := b.s.Get(key)
			spoil(second, 9)
			spoil(append(second, 8, 8, 8), 8)
			if string(first) != want {
				t.Errorf("%q: two answers share memory", key)
			}
			b.gets(key, want, api.OK)
		}
		first, _ := b.s.List()
		second, _ := b.s.List()
		spoil(second, "spoilt")
		if !slices.Equal(first, []string{"a", "b", "c"}) {
			t.Errorf("two lists share memory")
		}
		b.lists("a", "b", "c")
		state, _ := b.s.State()
		other, _ := b.s.State()
		for _, o := range other.Objects {
			longer := append(o.Stripes, 3, 3, 3)
			spoil(o.Stripes, 3)
			spoil(longer, 2)
		}
		spoil(other.Objects, object("spoilt", 1, 1, 1))
		if !slices.EqualFunc(state.Objects, []api.Object{object("a", 5, 1, 0, 1), object("b", 4, 2, 2), object("c", 0, 3)}, sameObject) {
			t.Errorf("two states share memory")
		}
		b.stands()
		b.recovers(api.OK)
		b.asksAll("a", "b", "c")
	}
}

// R4: what was answered stays as it was, whatever the store and its disks are told behind it.
func TestAnswersStay(t *testing.T) {
	b := made(t, example)
	b.puts("a", "hello", api.OK)
	b.puts("b", "1234", api.OK)
	d, _ := b.s.Get("a")
	l, _ := b.s.List()
	state, _ := b.s.State()
	b.puts("a", "x", api.OK)
	b.deletes("b", api.OK)
	b.puts("c", "xyzxyzxyz", api.OK)
	for disk := range 3 {
		b.replace(disk)
	}
	if string(d) != "hello" || !slices.Equal(l, []string{"a", "b"}) || !sameSaved(state, api.Saved{Objects: []api.Object{object("a", 5, 1, 0, 1), object("b", 4, 2, 2)}}) {
		t.Errorf("%q, %q, %v", d, l, state)
	}
}

// R5: the same calls are answered the same, and write the same, again and again: many objects, whose map's order is ever another.
func TestSameAgain(t *testing.T) {
	g := api.Geometry{K: 2, M: 1, Size: 2, Stripes: 60, Slots: 4, Objects: 30}
	run := func() *both {
		b := made(t, g)
		for i := range 60 {
			b.put(keyOf(i*7%30), text(i%5, i))
			if i%6 == 5 {
				b.remove(keyOf(i * 7 % 30))
			}
		}
		b.recovers(api.OK)
		return b
	}
	first := run()
	want := snapshot(first.a)
	state, n := first.s.State()
	for range 5 {
		b := run()
		s, m := b.s.State()
		if !sameShot(snapshot(b.a), want) || !sameSaved(s, state) || m != n {
			t.Fatal("the same calls, and other answers")
		}
	}
}

// R7: bytes are any bytes: all of them come again, as keys and as data.
func TestAnyBytes(t *testing.T) {
	g := api.Geometry{K: 2, M: 2, Size: 128, Stripes: 8, Slots: 3, Objects: 8}
	var all []byte
	for i := range 256 {
		all = append(all, byte(i))
	}
	b := made(t, g)
	for i := range 4 {
		b.puts(string(all[i*64:(i+1)*64]), string(all[i*7:]), api.OK)
	}
	b.recovers(api.OK)
	for i := range 4 {
		b.gets(string(all[i*64:(i+1)*64]), string(all[i*7:]), api.OK)
	}
	b.keepsWord()
}

// R1: what disks are told in between, of any number, is theirs alone: the store's calls end.
func TestDisksToldAnything(t *testing.T) {
	edges := []int{math.MinInt, -1, 0, 1, 2, 3, 1 << 32, math.MaxInt}
	b := made(t, example)
	for _, n := range edges {
		for _, m := range edges {
			b.disks(func(a *array.Array) {
				a.CrashAfter(-n)
				a.Fail(n)
				a.Replace(m)
				a.Corrupt(n, m, m, 1)
				a.Restart([][]int{{n}, {m}})
			})
			b.put("a", "hello")
			b.asksAll("a")
			if b.recover() != api.OK {
				b.format()
			}
			b.remove("a")
		}
	}
}
