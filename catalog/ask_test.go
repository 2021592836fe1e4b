package catalog_test

import (
	"math"
	"slices"
	"strings"
	"testing"

	"aumbry/api"
)

// P19.4: the object of a key, whole; ErrNotFound of any other key, those that no object can have too.
func TestGet(t *testing.T) {
	longest := strings.Repeat("k", maxKey)
	b := made(t, single, object("a", 3, 9, 7, 0, 255), object("b", 0, maxNumber), object(longest, 1, 0, 1))
	for _, want := range []api.Object{object("a", 3, 9, 7, 0, 255), object("b", 0, maxNumber), object(longest, 1, 0, 1)} {
		if got, err := b.c.Get(want.Key); err != api.OK || !same(got, want) {
			t.Errorf("Get(%.8q) = %v, %d, want %v", want.Key, got, err, want)
		}
	}
	for _, key := range []string{"", "A", "aa", "a\x00", "\x00a", "c", longest[1:], longest + "k", strings.Repeat("k", 1<<20)} {
		if got, err := b.c.Get(key); err != api.ErrNotFound || !same(got, api.Object{}) {
			t.Errorf("Get(%.8q) = %v, %d, want ErrNotFound", key, got, err)
		}
	}
}

// P19.4: what is put is got as it was put, its stripes in their order, till another is in its place, or it is gone.
func TestGetBehindApply(t *testing.T) {
	b := made(t, single)
	b.get("a")
	for n, l := range [][]int{{9, 3, 200}, {1}, nil, {0, 255}, {4, 3, 2, 1}} {
		b.applies(putOf("a", len(l), l...), 10-n, api.OK)
		if got, err := b.c.Get("a"); err != api.OK || !same(got, object("a", len(l), 10-n, l...)) {
			t.Errorf("Get = %v, %d", got, err)
		}
	}
	b.applies(delOf("a"), 0, api.OK)
	b.get("a")
	b.applies(putOf("a", 4, 4, 3, 2, 1), 0, api.OK)
}

// P19.4: all objects, their keys rising as bytes do, in whichever order they came.
func TestAllRises(t *testing.T) {
	rising := []string{"\x00", "\x00\x00", "\x00a", " ", "1", "10", "2", "A", "Z", "a", "a\x00", "a\x00b", "aa", "ab", "b", "z", "é", "\xFE", "\xFF", "\xFF\x00", "\xFF\xFF", strings.Repeat("\xFF", maxKey)}
	for turn := range len(rising) {
		b := made(t, single)
		for i := range rising {
			// 9 and the 22 keys have no common part: all of them come.
			n := (turn + 9*i) % len(rising)
			b.applies(putOf(rising[n], 1, n), turn, api.OK)
		}
		var keys []string
		for _, o := range b.c.All() {
			keys = append(keys, o.Key)
		}
		if !slices.Equal(keys, rising) {
			t.Fatalf("All() has %q", keys)
		}
	}
}

// P19.4: none; one; as many as may be.
func TestAllHowMany(t *testing.T) {
	b := made(t, single)
	if l := b.c.All(); len(l) != 0 {
		t.Errorf("All() = %v", l)
	}
	for n := range maxObjects {
		b.applies(putOf(key(maxObjects-n), 1, n), n, api.OK)
		if l := b.c.All(); len(l) != n+1 || l[0].Key != key(maxObjects-n) {
			t.Fatalf("All() = %v", l)
		}
	}
}

// P19.4: how many stripes are free: all of them, none, and each number between.
func TestFree(t *testing.T) {
	for _, g := range geometries() {
		whole := g.K * g.Size
		for n := range g.Stripes + 1 {
			b := made(t, g, object("a", n*whole, 0, run(g.Stripes-n, n)...))
			if free := b.c.Free(); free != g.Stripes-n {
				t.Fatalf("%+v, of which %d are taken: %d are free", g, n, free)
			}
		}
	}
	b := made(t, example)
	for _, step := range []struct {
		r    api.Record
		want int
	}{{putOf("a", 3, 2, 0), 1}, {putOf("b", 1, 1), 0}, {putOf("a", 0), 2}, {delOf("a"), 2}, {putOf("b", 4, 2, 0), 1}, {delOf("b"), 3}} {
		b.applies(step.r, 1, api.OK)
		if n := b.c.Free(); n != step.want {
			t.Errorf("behind %v Free() = %d, want %d", step.r, n, step.want)
		}
	}
}

// P19.4: each stripe's epoch is that of the object that has it; of a stripe that is free, or that there is not, 0 and false.
func TestOwner(t *testing.T) {
	b := made(t, api.Geometry{K: 1, Size: 2, Stripes: 6, Slots: 1, Objects: 3}, object("a", 5, 7, 5, 0, 3), object("b", 1, 0, 1), object("c", 0, 9))
	for stripe, want := range []struct {
		epoch int
		is    bool
	}{{7, true}, {0, true}, {0, false}, {7, true}, {0, false}, {7, true}, {0, false}, {0, false}} {
		if n, is := b.c.Owner(stripe); n != want.epoch || is != want.is {
			t.Errorf("Owner(%d) = %d, %v", stripe, n, is)
		}
	}
	for _, stripe := range []int{-1, -2, -6, -256, math.MinInt, 6, 7, 255, 256, 261, 1 << 32, 1<<32 + 1, math.MaxInt} {
		if n, is := b.c.Owner(stripe); n != 0 || is {
			t.Errorf("Owner(%d) = %d, %v", stripe, n, is)
		}
	}
}

// P19.4: an epoch for each stripe, all of them unlike, at both ends too, and none that has gone.
func TestOwnerOfEach(t *testing.T) {
	g := api.Geometry{K: 1, M: 2, Size: 1, Stripes: maxObjects, Slots: 1, Objects: maxObjects}
	b := made(t, g)
	for n := range maxObjects {
		b.applies(putOf(key(n), 1, maxObjects-1-n), maxNumber-n, api.OK)
	}
	for n := range maxObjects {
		if epoch, is := b.c.Owner(maxObjects - 1 - n); epoch != maxNumber-n || !is {
			t.Errorf("Owner(%d) = %d, %v", maxObjects-1-n, epoch, is)
		}
	}
	for n := range maxObjects {
		b.applies(delOf(key(n)), 0, api.OK)
		if epoch, is := b.c.Owner(maxObjects - 1 - n); epoch != 0 || is {
			t.Errorf("Owner(%d) = %d, %v, where it is free", maxObjects-1-n, epoch, is)
		}
	}
}
