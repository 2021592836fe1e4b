package catalog_test

import (
	"math"
	"slices"
	"strings"
	"testing"

	"aumbry/api"
	"aumbry/catalog"
)

// edges are numbers at the ends of all that is asked.
var edges = []int{math.MinInt, -1 << 32, -2, -1, 0, 1, 2, 3, 255, 256, maxNumber, maxNumber + 1, 1 << 32, math.MaxInt}

// R1: no catalog: ErrArg ahead of all else, or zero values.
func TestNil(t *testing.T) {
	var c *catalog.Catalog
	for _, key := range []string{"", "a", strings.Repeat("k", maxKey+1)} {
		for _, n := range edges {
			if l, err := c.Plan(key, n); len(l) != 0 || err != api.ErrArg {
				t.Errorf("Plan = %d, %d", l, err)
			}
			for _, r := range []api.Record{{}, putOf(key, 0), delOf(key), putOf(key, n, n)} {
				if err := c.Apply(r, n); err != api.ErrArg {
					t.Errorf("Apply = %d", err)
				}
			}
			if epoch, is := c.Owner(n); epoch != 0 || is {
				t.Errorf("Owner = %d, %v", epoch, is)
			}
		}
		if o, err := c.Get(key); !same(o, api.Object{}) || err != api.ErrArg {
			t.Errorf("Get = %v, %d", o, err)
		}
	}
	if l, n := c.All(), c.Free(); len(l) != 0 || n != 0 {
		t.Errorf("All, Free = %v, %d", l, n)
	}
}

// R1: a hand-made catalog, which has no geometry: as one without stripes, in which no object may be.
func TestHandMade(t *testing.T) {
	c := &catalog.Catalog{}
	for _, n := range edges {
		if l, err := c.Plan("a", n); len(l) != 0 || (err == api.ErrArg) != (n < 0 || n > maxNumber) || err != api.ErrArg && err != api.ErrTooMany {
			t.Errorf("Plan(%d) = %d, %d", n, l, err)
		}
		if epoch, is := c.Owner(n); epoch != 0 || is {
			t.Errorf("Owner(%d) = %d, %v", n, epoch, is)
		}
		for _, r := range []api.Record{putOf("a", 0), putOf("a", 1, 0), putOf("a", n, n), delOf("a"), {}} {
			want := api.ErrTooMany
			if !isRecord(r) {
				want = api.ErrArg
			} else if r.Kind == del {
				want = api.ErrNotFound
			}
			if err := c.Apply(r, n); err != want {
				t.Errorf("Apply(%v, %d) = %d, want %d", r, n, err, want)
			}
		}
	}
	_, badKey := c.Plan("", 0)
	o, notFound := c.Get("a")
	if badKey != api.ErrBadKey || notFound != api.ErrNotFound || !same(o, api.Object{}) || len(c.All()) != 0 || c.Free() != 0 {
		t.Errorf("%d, %d, %v, %v, %d", badKey, notFound, o, c.All(), c.Free())
	}
}

// R1: all calls at all edges end, and tell what the words do.
func TestAllEdges(t *testing.T) {
	for _, g := range geometries() {
		b := made(t, g, object("a", 1, 1, 0))
		for _, first := range edges {
			b.plan("a", first)
			b.plan("b", first)
			b.owner(first)
			for _, second := range edges {
				for _, epoch := range edges {
					b.apply(api.Record{Kind: first, Key: "a", Length: second}, epoch)
					if b.apply(putOf("b", first, second), epoch) == api.OK {
						b.applies(delOf("b"), epoch, api.OK)
					}
					opened(t, g, []api.Object{object("c", first, epoch, second)})
				}
			}
		}
	}
}

// R1: long lists and texts.
func TestLongLists(t *testing.T) {
	many := run(0, 1<<20)
	text := strings.Repeat("k", 1<<20)
	b := made(t, greatest)
	b.applies(putOf("a", len(many), many...), 0, api.ErrArg)
	b.applies(putOf("a", maxNumber, many...), 0, api.ErrArg)
	b.applies(putOf(text, 0), 0, api.ErrArg)
	b.applies(delOf(text), 0, api.ErrArg)
	b.plans(text, 0, nil, api.ErrBadKey)
	b.get(text)
	for _, l := range [][]api.Object{make([]api.Object, 1<<20), {object("a", len(many), 0, many...)}, {object(text, 0, 0)}, keyed(1 << 15)} {
		if opened(t, greatest, l) != nil {
			t.Errorf("%d objects", len(l))
		}
	}
}

// roomy is a copy of a list with others on both sides; all of it is told by whole.
func roomy[T any](l []T, other T) (inner, whole []T) {
	whole = slices.Concat([]T{other, other}, l, []T{other, other, other})
	return whole[2 : 2+len(l)], whole
}

// spoil writes over all that a list holds, spare room too.
func spoil[T any](l []T, with T) {
	room := l[:cap(l)]
	for i := range room {
		room[i] = with
	}
}

// spoilObjects writes over all that objects hold.
func spoilObjects(l []api.Object) {
	for i := range l[:cap(l)] {
		spoil(l[:cap(l)][i].Stripes, -5)
	}
	spoil(l, api.Object{Key: "spoilt", Length: -5, Epoch: -5, Stripes: []int{-5}})
}

// listCases may be, or not.
func listCases() [][]api.Object {
	return [][]api.Object{
		nil, {}, {object("a", 3, 1, 0, 1)}, {object("b", 1, 2, 2), object("a", 3, 1, 1, 0)}, {object("b", 0, 2, []int{}...), object("a", 6, 1, 1, 0, 2)},
		{object("a", 3, 1, 0, 1), object("b", 3, 1, 1, 2)}, {object("a", 1, 1, 0), object("a", 1, 1, 1)}, {object("", 1, 1, 0)}, {object("a", 1, 1, 3)},
		{object("a", 1, 1, 0), object("b", 1, 1, 1), object("c", 1, 1, 2)},
	}
}

// R3, R4: what is handed to New is left as it was, by answers and by errors, and not kept.
func TestNewMemory(t *testing.T) {
	for _, list := range listCases() {
		l, whole := roomy(ownObjects(list), object("beside", 5, 6, 7))
		rooms, before := make([][]int, len(l)), make([][]int, len(l))
		for i := range l {
			l[i].Stripes, rooms[i] = roomy(l[i].Stripes, 2)
			before[i] = slices.Clone(rooms[i])
		}
		wholeBefore := ownObjects(whole)
		b := opened(t, example, l)
		if !sameAll(whole, wholeBefore) || !slices.EqualFunc(rooms, before, slices.Equal) {
			t.Fatalf("what New(%v) was given has changed", list)
		}
		for _, room := range rooms {
			spoil(room, 1)
		}
		spoil(whole, api.Object{})
		if b != nil {
			b.stands()
			b.holds(b.m.all()...)
		}
	}
}

// R3, R4: likewise Apply, of a record's stripes.
func TestApplyMemory(t *testing.T) {
	for _, r := range []api.Record{putOf("a", 1, 1), putOf("c", 3, 2, 1), putOf("c", 0, []int{}...), putOf("b", 4, 1, 2), putOf("c", 2, 0), putOf("c", 3, 1, 1), putOf("c", 1, -1), delOf("a"), delOf("c"), {Kind: del, Key: "a", Stripes: []int{}}} {
		b := made(t, api.Geometry{K: 1, Size: 2, Stripes: 3, Slots: 1, Objects: 3}, object("a", 1, 1, 0), object("b", 0, 2))
		var whole []int
		r.Stripes, whole = roomy(r.Stripes, 2)
		before := slices.Clone(whole)
		b.apply(r, 5)
		if !slices.Equal(whole, before) {
			t.Fatalf("what Apply(%v) was given has changed", r)
		}
		spoil(whole, 0)
		b.stands()
	}
}

// R4: what is answered lies in memory of its own: neither the catalog nor another answer changes with it.
func TestAnswersMemory(t *testing.T) {
	for _, list := range listCases()[:5] {
		b := made(t, example, list...)
		all, other := b.c.All(), b.c.All()
		want := ownObjects(all)
		spoilObjects(other)
		if b.stands(); !sameAll(all, want) {
			t.Fatalf("two answers of All of %v share memory", list)
		}
		for _, o := range want {
			first, _ := b.c.Get(o.Key)
			second, _ := b.c.Get(o.Key)
			spoil(second.Stripes, -5)
			spoil(append(second.Stripes, 8, 8), -5)
			if b.stands(); !same(first, o) || !sameAll(all, want) {
				t.Fatalf("two answers of Get of %v share memory", list)
			}
		}
		for length := range 7 {
			first, _ := b.plan("a", length)
			second, _ := b.plan("a", length)
			wantPlan := slices.Clone(first)
			spoil(second, -5)
			if b.stands(); !slices.Equal(first, wantPlan) {
				t.Fatalf("two answers of Plan(%d) share memory", length)
			}
			b.plans("a", length, wantPlan, b.mayPlan(length))
		}
	}
}

// mayPlan is what is told of a length, of a key that may be planned.
func (b *both) mayPlan(length int) api.Errno {
	if b.m.needs(length) > len(b.m.free()) {
		return api.ErrNoSpace
	}
	return api.OK
}

// R4: no object of an answer shares memory with another one of it, nor does what is appended to its stripes.
func TestObjectsShareNone(t *testing.T) {
	b := made(t, single, object("a", 3, 1, 5, 6, 7), object("b", 0, 2), object("c", 1, 3, 0), object("d", 2, 4, 9, 8))
	all := b.c.All()
	want := ownObjects(all)
	for i := range all {
		longer := append(all[i].Stripes, 1, 2, 3, 4, 5)
		spoil(all[i].Stripes, -9)
		spoil(longer, -8)
		if !sameAll(all[:i], want[:i]) || !sameAll(all[i+1:], want[i+1:]) {
			t.Fatalf("others have changed with the one at %d", i)
		}
		all[i].Stripes = slices.Clone(want[i].Stripes)
	}
	b.stands()
}

// R4: what was planned, and is applied, is not kept, nor is what was got and is applied again under another key.
func TestAppliedAnswersMemory(t *testing.T) {
	b := made(t, example)
	stripes, _ := b.plan("a", 3)
	b.applies(putOf("a", 3, stripes...), 1, api.OK)
	spoil(stripes, 2)
	b.holds(object("a", 3, 1, 0, 1))
	o, _ := b.c.Get("a")
	b.applies(delOf("a"), 2, api.OK)
	b.applies(putOf("b", 3, o.Stripes...), 3, api.OK)
	spoil(o.Stripes, 2)
	b.holds(object("b", 3, 3, 0, 1))
}

// R4: what was answered stays as it was, whatever the catalog is told behind it.
func TestAnswersStay(t *testing.T) {
	b := made(t, single, object("a", 2, 1, 4, 5), object("b", 1, 2, 6))
	all, planned := b.c.All(), []int{}
	a, _ := b.c.Get("a")
	planned, _ = b.c.Plan("c", 3)
	b.applies(putOf("a", 1, 0), 7, api.OK)
	b.applies(delOf("b"), 8, api.OK)
	b.applies(putOf("c", 3, 4, 5, 6), 9, api.OK)
	if !sameAll(all, []api.Object{object("a", 2, 1, 4, 5), object("b", 1, 2, 6)}) || !same(a, object("a", 2, 1, 4, 5)) || !slices.Equal(planned, []int{0, 1, 2}) {
		t.Errorf("%v, %v, %d", all, a, planned)
	}
}

// R5: neither the order of the objects nor how they came tells: what holds the same answers the same, again and again.
func TestOrderDoesNotTell(t *testing.T) {
	l := []api.Object{}
	for n := range 20 {
		l = append(l, object(key(n), 3, n, 3*n, 3*n+2, 3*n+1))
	}
	one := made(t, single, l...)
	other := made(t, single)
	slices.Reverse(l)
	for _, o := range l {
		other.applies(putOf(o.Key, 1, 255), 99, api.OK)
		other.applies(putOf(o.Key, o.Length, o.Stripes...), o.Epoch, api.OK)
	}
	for range 50 {
		if !sameAll(one.c.All(), other.c.All()) || one.c.Free() != other.c.Free() {
			t.Fatalf("%v, %v", one.c.All(), other.c.All())
		}
		for stripe := range maxStripes {
			n, is := one.c.Owner(stripe)
			if m, isToo := other.c.Owner(stripe); n != m || is != isToo {
				t.Fatalf("Owner(%d) = %d, %v and %d, %v", stripe, n, is, m, isToo)
			}
		}
		one.plans("z", 9, run(60, 9), api.OK)
		other.plans("z", 9, run(60, 9), api.OK)
	}
}

// R5: two catalogs tell nothing of each other, though they were made of one list.
func TestTwoCatalogs(t *testing.T) {
	l := []api.Object{object("a", 3, 1, 0, 1)}
	one, other := made(t, example, l...), made(t, example, l...)
	one.applies(delOf("a"), 2, api.OK)
	one.applies(putOf("b", 6, 0, 1, 2), 2, api.OK)
	other.holds(l...)
	other.applies(putOf("b", 1, 2), 5, api.OK)
	other.applies(putOf("c", 0), 5, api.ErrTooMany)
	one.holds(object("b", 6, 2, 0, 1, 2))
	one.plans("c", 0, nil, api.OK)
}

// R2: beside an error there is nothing.
func TestNothingBesideErrors(t *testing.T) {
	for _, g := range append(badGeometries(), example) {
		for _, l := range append(listCases(), []api.Object{{}}) {
			if c, err := catalog.New(g, l); (c == nil) != (err != api.OK) {
				t.Fatalf("New(%+v, %v) = %p, %d", g, l, c, err)
			}
		}
	}
	b := made(t, example, object("a", 3, 1, 0, 1))
	for _, key := range []string{"", "a", "b", strings.Repeat("k", maxKey+1)} {
		for _, length := range edges {
			if l, err := b.c.Plan(key, length); err != api.OK && len(l) != 0 {
				t.Errorf("Plan(%.8q, %d) = %d, %d", key, length, l, err)
			}
		}
		if o, err := b.c.Get(key); err != api.OK && !same(o, api.Object{}) {
			t.Errorf("Get(%.8q) = %v, %d", key, o, err)
		}
	}
}
