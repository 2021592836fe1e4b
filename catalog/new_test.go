package catalog_test

import (
	"math"
	"slices"
	"strings"
	"testing"

	"aumbry/api"
	"aumbry/catalog"
)

// P19.1: layout.Check's error of a geometry, of each kind, ahead of all that may be said of objects.
func TestNewGeometries(t *testing.T) {
	for _, g := range badGeometries() {
		for _, l := range [][]api.Object{nil, {}, {object("a", 0, 0)}, {object("", -1, -1, -1)}, keyed(maxObjects + 1), {object("a", 0, 0), object("a", 0, 0)}} {
			if c, err := catalog.New(g, l); c != nil || err != api.ErrConfig {
				t.Fatalf("New(%+v, %d objects) = %p, %d, want ErrConfig", g, len(l), c, err)
			}
		}
	}
	for _, g := range geometries() {
		for _, l := range [][]api.Object{nil, {}} {
			b := made(t, g, l...)
			b.holds()
			if n := b.c.Free(); n != g.Stripes {
				t.Fatalf("%+v: %d stripes are free", g, n)
			}
		}
	}
}

// P19.1: objects as many as may be, and one more, and far more.
func TestNewHowMany(t *testing.T) {
	for objects := 1; objects <= maxObjects; objects++ {
		g := single
		g.Objects = objects
		for _, n := range []int{0, 1, objects - 1, objects, objects + 1, objects + 2, maxObjects, maxObjects + 1, 300} {
			if b := opened(t, g, keyed(n)); (b != nil) != (n <= objects) {
				t.Fatalf("New of %d objects, where %d may be", n, objects)
			}
		}
	}
}

// P19.1: one too many is none, whatever is wrong with it besides.
func TestNewOneTooMany(t *testing.T) {
	for _, last := range []api.Object{object("z", 0, 0), object("a", 0, 0), object("", 0, 0), object("z", 1, 0, 0)} {
		if opened(t, example, []api.Object{object("a", 0, 0), object("b", 0, 0), last}) != nil {
			t.Errorf("one more than may be: %v", last)
		}
	}
}

// P19.1: a key of 1 to MaxKey bytes, any bytes.
func TestNewKeys(t *testing.T) {
	for length := range 300 {
		if b := opened(t, example, []api.Object{object(strings.Repeat("k", length), 2, 3, 1)}); (b != nil) != (length >= 1 && length <= maxKey) {
			t.Fatalf("a key of %d bytes", length)
		}
	}
	for first := range 256 {
		made(t, example, object(string([]byte{byte(first)}), 1, 1, 0), object(string([]byte{byte(first), 0}), 2, 2, 1))
	}
	if opened(t, example, []api.Object{object(strings.Repeat("é", maxKey/2+1), 0, 0)}) != nil {
		t.Errorf("a key of 66 bytes")
	}
}

// P19.1: a key that one ahead has, next to it or not, whatever else the later one has.
func TestNewSameKey(t *testing.T) {
	for n := 2; n <= 12; n++ {
		for first := range n {
			for second := first + 1; second < n; second++ {
				l := keyed(n)
				l[second].Key = l[first].Key
				for _, o := range []api.Object{l[second], object(l[first].Key, 1, 9, 0), object(l[first].Key, 2, 0, 5, 4)} {
					l[second] = o
					if opened(t, single, l) != nil {
						t.Fatalf("%d objects, the key of %d at %d too", n, first, second)
					}
				}
			}
		}
	}
	made(t, single, object("a", 0, 0), object("A", 0, 0), object("a\x00", 0, 0), object("aa", 0, 0), object("\xE1", 0, 0))
}

// P19.1: a Length of 0 and more, as far as there are stripes; none below, and none that needs more.
func TestNewLengths(t *testing.T) {
	for _, g := range geometries() {
		whole := g.K * g.Size
		most := whole * g.Stripes
		for _, length := range []int{-maxNumber, -whole, -1, 0, 1, whole - 1, whole, whole + 1, most - whole, most - 1, most, most + 1, most + whole, maxNumber, maxNumber + 1, math.MinInt, math.MaxInt, 1 << 32} {
			needs := 0
			if length > 0 {
				needs = (length-1)/whole + 1
			}
			may := length >= 0 && length <= most
			if b := opened(t, g, []api.Object{object("a", length, 0, run(0, min(needs, 300))...)}); (b != nil) != may {
				t.Fatalf("%+v, a length of %d", g, length)
			}
		}
	}
}

// P19.1: no Length of more than 31 bits, or below 0, has stripes enough, nor none.
func TestNewLengthsWithoutStripes(t *testing.T) {
	for _, length := range []int{-1, math.MinInt, maxNumber, maxNumber + 1, 1 << 32, math.MaxInt} {
		for _, n := range []int{0, 1, 2, maxStripes - 1, maxStripes, maxStripes + 1} {
			if opened(t, greatest, []api.Object{object("a", length, 0, run(0, n)...)}) != nil {
				t.Fatalf("a length of %d and %d stripes", length, n)
			}
		}
	}
}

// P19.1: an Epoch of 0 to MaxNumber; nothing else is asked of it.
func TestNewEpochs(t *testing.T) {
	for _, epoch := range []int{-1, -2, math.MinInt, -1 << 32, 0, 1, 2, 1 << 30, maxNumber - 1, maxNumber, maxNumber + 1, 1 << 32, 1<<32 + 1, math.MaxInt} {
		for _, l := range [][]api.Object{{object("a", 0, epoch)}, {object("b", 2, 5, 2), object("a", 3, epoch, 1, 0)}} {
			b := opened(t, example, l)
			if (b != nil) != (epoch >= 0 && epoch <= maxNumber) {
				t.Fatalf("an epoch of %d", epoch)
			}
		}
	}
	made(t, example, object("a", 2, 7, 0), object("b", 2, 7, 1))
}

// P19.1: a stripe of 0 to Stripes - 1, wherever it stands in the list.
func TestNewStripes(t *testing.T) {
	for _, g := range geometries() {
		for _, stripe := range []int{-1, -2, -256, math.MinInt, 0, g.Stripes - 1, g.Stripes, g.Stripes + 1, 255, 256, 257, 1 << 32, 1<<32 + 1, math.MaxInt} {
			may := stripe >= 0 && stripe < g.Stripes
			if b := opened(t, g, []api.Object{object("a", 1, 0, stripe)}); (b != nil) != may {
				t.Fatalf("%+v, the stripe %d", g, stripe)
			}
			for at := range min(g.Stripes, 5) {
				// The others are unlike it, where it may be.
				l := slices.DeleteFunc(run(0, g.Stripes), func(s int) bool { return s == stripe })
				l = slices.Insert(l[:min(len(l), 4, g.Stripes-1)], min(at, 4, g.Stripes-1), stripe)
				if b := opened(t, g, []api.Object{object("a", len(l)*g.K*g.Size, 0, l...)}); (b != nil) != may {
					t.Fatalf("%+v, the stripe %d in %d", g, stripe, l)
				}
			}
		}
	}
}

// P19.1: as many stripes as the Length needs, and neither fewer nor more.
func TestNewHowManyStripes(t *testing.T) {
	for _, g := range geometries() {
		for n := range g.Stripes + 3 {
			for _, length := range []int{0, 1, g.K * g.Size * n, g.K*g.Size*n + 1, g.K*g.Size*n - 1, g.K * g.Size * (n - 1), g.K*g.Size*(n-1) + 1} {
				may := n <= g.Stripes && length >= 0 && length <= g.K*g.Size*n && length > g.K*g.Size*(n-1)
				if b := opened(t, g, []api.Object{object("a", length, 0, run(0, n)...)}); (b != nil) != may {
					t.Fatalf("%+v, a length of %d and %d stripes", g, length, n)
				}
			}
		}
	}
}

// P19.1: no stripe is named twice by one object, next to it or not.
func TestNewStripeTwice(t *testing.T) {
	for n := 2; n <= 20; n++ {
		for first := range n {
			for second := first + 1; second < n; second++ {
				l := run(50, n)
				l[second] = l[first]
				if opened(t, single, []api.Object{object("a", n, 0, l...)}) != nil {
					t.Fatalf("%d", l)
				}
			}
		}
	}
	all := run(0, maxStripes)
	made(t, single, object("a", maxStripes, 0, all...))
	all[255] = 0
	if opened(t, single, []api.Object{object("a", maxStripes, 0, all...)}) != nil {
		t.Errorf("all stripes, and 0 in the place of 255")
	}
}

// P19.1: stripes need not rise.
func TestNewAnyOrderOfStripes(t *testing.T) {
	for _, l := range [][]int{{0, 1, 2}, {0, 2, 1}, {1, 0, 2}, {1, 2, 0}, {2, 0, 1}, {2, 1, 0}} {
		made(t, example, object("a", 5, 4, l...)).holds(object("a", 5, 4, l...))
	}
}

// P19.1: a stripe that one ahead has, by whichever of its stripes and at whichever place.
func TestNewStripeOfAnother(t *testing.T) {
	ahead := []api.Object{object("c", 2, 0, 7, 3), object("a", 3, 1, 200, 0, 9), object("b", 0, 2)}
	made(t, single, append(ahead, object("d", 3, 3, 1, 255, 8))...)
	for _, stripe := range []int{7, 3, 200, 0, 9} {
		for at := range 3 {
			l := []int{1, 255, 8}
			l[at] = stripe
			if opened(t, single, append(slices.Clone(ahead), object("d", 3, 3, l...))) != nil {
				t.Fatalf("%d, where another has %d", l, stripe)
			}
		}
	}
}

// wrongObjects do not fit, for one reason each, whatever else there is in the example's geometry.
func wrongObjects() []api.Object {
	return []api.Object{
		{}, object("", 0, 0), object(strings.Repeat("k", maxKey+1), 0, 0),
		object("x", -1, 0), object("x", maxNumber+1, 0), object("x", maxNumber, 0),
		object("x", 0, -1), object("x", 0, maxNumber+1),
		object("x", 0, 0, 0), object("x", 1, 0), object("x", 1, 0, 1, 2), object("x", 3, 0, 1), object("x", 4, 0, 0, 0),
		object("x", 1, 0, -1), object("x", 1, 0, 3), object("x", 1, 0, 256), object("x", 7, 0, 0, 1, 2, 3),
	}
}

// P19.1: wherever the one stands that does not fit.
func TestNewOneDoesNotFit(t *testing.T) {
	g := example
	g.Objects = maxObjects
	for _, wrong := range wrongObjects() {
		for n := range 6 {
			for at := range n + 1 {
				if opened(t, g, slices.Insert(keyed(n), at, wrong)) != nil {
					t.Fatalf("%v at %d of %d", wrong, at, n)
				}
			}
		}
	}
}

// P19.1: keys need not rise, and no order tells.
func TestNewAnyOrder(t *testing.T) {
	l := []api.Object{object("a", 2, 3, 9, 5), object("b", 0, 2), object("c", 1, 1, 0), object("\xFF", 3, 2, 4, 6, 1)}
	want := ownObjects(l)
	var all func(n int)
	lists := 0
	all = func(n int) {
		if n == len(l) {
			lists++
			made(t, single, l...).holds(want...)
		}
		for i := n; i < len(l); i++ {
			l[n], l[i] = l[i], l[n]
			all(n + 1)
			l[n], l[i] = l[i], l[n]
		}
	}
	all(0)
	if lists != 24 {
		t.Errorf("%d orders", lists)
	}
}

// P19.1: all lists of up to four of a few objects, such as fit and not.
func TestNewAllLists(t *testing.T) {
	some := append(wrongObjects()[:4:4],
		object("a", 0, 0), object("a", 3, 1, 0, 1), object("a", 2, maxNumber, 2), object("b", 1, 1, 1), object("b", 4, 2, 2, 0),
		object("c", 0, 5), object("c", 2, 1, 2), object("c", 6, 1, 1, 2, 0))
	g := example
	g.Objects = 3
	may := 0
	var all func(l []api.Object)
	all = func(l []api.Object) {
		if opened(t, g, l) != nil {
			may++
		}
		for _, o := range some {
			if len(l) < 4 {
				all(append(slices.Clone(l), o))
			}
		}
	}
	all(nil)
	if may < 50 {
		t.Errorf("%d lists may be: the test tells too little", may)
	}
}
