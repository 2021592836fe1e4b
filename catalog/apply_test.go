package catalog_test

import (
	"math"
	"slices"
	"strings"
	"testing"

	"aumbry/api"
)

// P19.3: ErrArg of a record that may not be, first of all, whatever else would be told.
func TestApplyNoRecord(t *testing.T) {
	long := strings.Repeat("k", maxKey+1)
	for _, l := range [][]api.Object{nil, {object("a", 3, 1, 0, 1)}, {object("a", 3, 1, 0, 1), object("b", 2, 1, 2)}} {
		b := made(t, example, l...)
		for _, r := range []api.Record{
			{}, {Key: "a"}, {Kind: 3, Key: "a"}, {Kind: -1, Key: "a"}, {Kind: 257, Key: "a"}, {Kind: 258, Key: "a"}, {Kind: 1<<32 + 2, Key: "a"},
			delOf(""), delOf(long), putOf("", 0), putOf(long, 0),
			{Kind: del, Key: "a", Length: 3}, {Kind: del, Key: "a", Length: -1}, {Kind: del, Key: "a", Stripes: []int{0, 1}}, {Kind: del, Key: "a", Length: 3, Stripes: []int{0, 1}},
			{Kind: del, Key: "z", Length: 1}, {Kind: del, Key: "z", Stripes: []int{2}},
			putOf("a", -1), putOf("a", maxNumber+1), putOf("z", -1), putOf("z", maxNumber+1), putOf("z", 1<<32),
			putOf("z", 2, -1), putOf("z", 2, maxStripes), putOf("z", 2, math.MinInt), putOf("z", 2, math.MaxInt), putOf("z", 0, run(0, maxStripes+1)...),
		} {
			for _, epoch := range []int{-1, 0, 5, maxNumber, maxNumber + 1} {
				b.applies(r, epoch, api.ErrArg)
			}
		}
		b.holds(l...)
	}
}

// P19.3: ErrTooMany of a put of a key that none has, where there are as many as may be, ahead of whether it fits; the keys that are there may be put.
func TestApplyTooMany(t *testing.T) {
	for objects := 1; objects <= maxObjects; objects++ {
		g := single
		g.Objects = objects
		b := made(t, g, keyed(objects)...)
		for _, r := range []api.Record{putOf("z", 0), putOf("z", 1, 0), putOf("z", 1), putOf("z", 2, 1, 1), putOf("z", maxNumber)} {
			for _, epoch := range []int{-1, 0, maxNumber, maxNumber + 1} {
				b.applies(r, epoch, api.ErrTooMany)
			}
		}
		b.applies(putOf(key(0), 1, 7), 9, api.OK)
		b.applies(putOf("z", 1, 7), 9, api.ErrTooMany)
		b.applies(delOf(key(0)), 9, api.OK)
		b.applies(putOf("z", 2, 7), 9, api.ErrArg)
		b.applies(putOf("z", 1, 7), 9, api.OK)
		b.applies(putOf(key(0), 0), 9, api.ErrTooMany)
	}
}

// P19.3: a put of a key that is not there.
func TestApplyPutAnew(t *testing.T) {
	b := made(t, example)
	b.applies(putOf("b", 3, 2, 0), 7, api.OK)
	b.holds(object("b", 3, 7, 2, 0))
	b.applies(putOf("a", 2, 1), 5, api.OK)
	b.holds(object("a", 2, 5, 1), object("b", 3, 7, 2, 0))
	if n := b.c.Free(); n != 0 {
		t.Errorf("Free() = %d", n)
	}
}

// P19.3: a put of a key that is there: with all stripes anew it stands in the other's place, and the other's are free.
func TestApplyPutInPlace(t *testing.T) {
	b := made(t, example, object("a", 3, 9, 0, 1), object("b", 0, 4))
	b.applies(putOf("a", 1, 2), 3, api.OK)
	b.holds(object("a", 1, 3, 2), object("b", 0, 4))
	b.plans("a", 4, []int{0, 1}, api.OK)
	b.applies(putOf("b", 4, 1, 0), 3, api.OK)
	b.holds(object("a", 1, 3, 2), object("b", 4, 3, 1, 0))
	b.applies(putOf("a", 0), 3, api.OK)
	b.holds(object("a", 0, 3), object("b", 4, 3, 1, 0))
	b.applies(putOf("a", 0), 8, api.OK)
	b.holds(object("a", 0, 8), object("b", 4, 3, 1, 0))
	b.applies(putOf("b", 1, 2), 1, api.OK)
	b.holds(object("a", 0, 8), object("b", 1, 1, 2))
	b.plans("c", 0, nil, api.ErrTooMany)
}

// P19.3: the stripes of the object of that key are not free for the one that is to stand in its place: all of them, or one.
func TestApplyPutOnItsOwnStripes(t *testing.T) {
	g := api.Geometry{K: 1, Size: 2, Stripes: 6, Slots: 1, Objects: 2}
	was := object("a", 6, 1, 5, 0, 3)
	b := made(t, g, was, object("b", 1, 2, 1))
	for _, l := range [][]int{{5, 0, 3}, {0, 3, 5}, {5, 2, 4}, {2, 0, 4}, {2, 4, 3}, {2, 4, 1}, {2, 4, 4}} {
		b.applies(putOf("a", 6, l...), 8, api.ErrArg)
		b.holds(was, object("b", 1, 2, 1))
	}
	b.applies(putOf("a", 1, 3), 8, api.ErrArg)
	b.applies(putOf("a", 3, 4, 2), 8, api.OK)
	b.holds(object("a", 3, 8, 4, 2), object("b", 1, 2, 1))
	b.applies(putOf("a", 6, 5, 0, 3), 9, api.OK)
}

// P19.3: a put that does not fit, for each reason; nothing has changed behind it.
func TestApplyDoesNotFit(t *testing.T) {
	l := []api.Object{object("a", 2, 1, 1), object("b", 1, 2, 6)}
	b := made(t, api.Geometry{K: 1, Size: 2, Stripes: 8, Slots: 1, Objects: 3}, l...)
	for _, key := range []string{"a", "b", "c"} {
		for _, r := range []api.Record{
			putOf(key, 0, 0), putOf(key, 1), putOf(key, 2), putOf(key, 3, 0), putOf(key, 2, 0, 2), putOf(key, 4, 0, 2, 3),
			putOf(key, 1, 8), putOf(key, 1, 9), putOf(key, 1, 255), putOf(key, 3, 8, 0), putOf(key, 3, 0, 8),
			putOf(key, 3, 0, 0), putOf(key, 5, 0, 2, 0), putOf(key, 5, 2, 0, 0),
			putOf(key, 1, 1), putOf(key, 1, 6), putOf(key, 3, 1, 0), putOf(key, 3, 0, 6), putOf(key, 3, 1, 6),
			putOf(key, maxNumber), putOf(key, maxNumber, 0), putOf(key, 17, 0, 1, 2, 3, 4, 5, 6, 7, 8),
		} {
			b.applies(r, 5, api.ErrArg)
			b.holds(l...)
		}
	}
	b.applies(putOf("c", 3, 7, 0), 5, api.OK)
}

// P19.3: of a put the epoch is 0 to MaxNumber; it may be less than others, and the same.
func TestApplyEpochs(t *testing.T) {
	for _, epoch := range []int{-1, -2, math.MinInt, -1 << 32, 0, 1, 2, 1 << 30, maxNumber - 1, maxNumber, maxNumber + 1, maxNumber + 2, 1 << 32, 1<<32 + 1, math.MaxInt} {
		b := made(t, example, object("a", 2, 7, 0))
		want := api.OK
		if epoch < 0 || epoch > maxNumber {
			want = api.ErrArg
		}
		b.applies(putOf("b", 1, 1), epoch, want)
		b.applies(putOf("a", 1, 2), epoch, want)
		if n, is := b.c.Owner(2); is != (want == api.OK) || is && n != epoch {
			t.Errorf("the epoch %d: %d, %v", epoch, n, is)
		}
		b.applies(putOf("a", 0), epoch, want)
	}
}

// P19.3: a delete of a key that is there, and of one that is not; nothing is asked of its epoch.
func TestApplyDelete(t *testing.T) {
	for _, epoch := range []int{-1, math.MinInt, 0, 5, maxNumber, maxNumber + 1, math.MaxInt} {
		b := made(t, example, object("b", 3, 1, 2, 0), object("a", 1, 2, 1))
		b.applies(delOf("c"), epoch, api.ErrNotFound)
		b.applies(delOf("B"), epoch, api.ErrNotFound)
		b.applies(delOf("bb"), epoch, api.ErrNotFound)
		b.applies(delOf("b"), epoch, api.OK)
		b.holds(object("a", 1, 2, 1))
		b.applies(delOf("b"), epoch, api.ErrNotFound)
		b.plans("b", 3, []int{0, 2}, api.OK)
		b.applies(api.Record{Kind: del, Key: "a", Stripes: []int{}}, epoch, api.OK)
		b.applies(delOf("a"), epoch, api.ErrNotFound)
		b.holds()
		b.applies(putOf("a", 6, 0, 1, 2), 1, api.OK)
	}
}

// P19.3: keys at both ends of their lengths, and of all bytes, are put and deleted, each as itself.
func TestApplyKeys(t *testing.T) {
	var keys []string
	for length := 1; length <= maxKey; length++ {
		keys = append(keys, strings.Repeat("k", length))
	}
	b := made(t, single)
	for i, key := range keys {
		b.applies(putOf(key, 1, i), i, api.OK)
	}
	b.applies(delOf(strings.Repeat("k", maxKey+1)), 0, api.ErrArg)
	b.applies(delOf(""), 0, api.ErrArg)
	for i, key := range keys {
		if n, is := b.c.Owner(i); n != i || !is {
			t.Errorf("Owner(%d) = %d, %v", i, n, is)
		}
		b.applies(delOf(key), 0, api.OK)
	}
	for first := range 256 {
		b.applies(putOf(string([]byte{byte(first), 0xC3}), 1, first), first, api.OK)
		b.applies(delOf(string([]byte{byte(first)})), first, api.ErrNotFound)
		b.applies(delOf(string([]byte{byte(first), 0xC3})), first, api.OK)
	}
}

// P19.3: as many objects as may be, each with as many stripes as there are for it, and all of them put anew and deleted.
func TestApplyAllThere(t *testing.T) {
	b := made(t, single)
	for n := range maxObjects {
		b.applies(putOf(key(n), 3, n, 64+n, 128+n), n, api.OK)
	}
	b.applies(putOf("z", 0), 0, api.ErrTooMany)
	for n := range maxObjects {
		b.applies(putOf(key(n), 1, 192+n), 100+n, api.OK)
	}
	b.plans(key(9), 192, run(0, 192), api.OK)
	b.plans(key(9), 193, nil, api.ErrNoSpace)
	for n := range maxObjects {
		b.applies(delOf(key(maxObjects-1-n)), 0, api.OK)
	}
	b.applies(putOf("z", maxStripes, run(0, maxStripes)...), maxNumber, api.OK)
}

// P19.3: every edge with every other.
func TestApplyEdgesTogether(t *testing.T) {
	was := [][]api.Object{nil, {object("a", 2, 1, 1)}, {object("a", 0, 0), object("b", 4, 1, 2, 0)}}
	keys := []string{"", "a", "b", "c", strings.Repeat("k", maxKey), strings.Repeat("k", maxKey+1)}
	lengths := []int{-1, 0, 1, 2, 3, 4, 6, maxNumber, maxNumber + 1}
	stripes := [][]int{nil, {}, {-1}, {0}, {1}, {2}, {3}, {0, 2}, {2, 2}, {0, 1}, {2, 0, 1}, {0, 1, 2, 3}, {256}}
	for _, l := range was {
		b := made(t, example, l...)
		for _, kind := range []int{0, put, del, 3} {
			for _, key := range keys {
				for _, length := range lengths {
					for _, s := range stripes {
						for _, epoch := range []int{-1, 0, maxNumber, maxNumber + 1} {
							if b.apply(api.Record{Kind: kind, Key: key, Length: length, Stripes: s}, epoch) == api.OK {
								b = made(t, example, l...)
							}
						}
					}
				}
			}
		}
	}
}

// R3: behind an error nothing has changed: what follows is as it was without.
func TestApplyErrorsChangeNothing(t *testing.T) {
	l := []api.Object{object("a", 3, 9, 0, 2), object("b", 0, 1)}
	wrong := []api.Record{{}, delOf("c"), delOf(""), putOf("c", 0), putOf("a", 2, 0), putOf("a", 3, 1, 0), putOf("b", 4, 1, 1), putOf("b", 3, 1, 2), putOf("b", 0, 1), putOf("b", 1, 3)}
	for _, first := range wrong {
		for _, second := range wrong {
			b := made(t, example, l...)
			if b.apply(first, 4) == api.OK || b.apply(second, 4) == api.OK {
				t.Fatalf("%v or %v is no error", first, second)
			}
			b.holds(l...)
			b.plans("b", 2, []int{1}, api.OK)
			b.applies(putOf("b", 2, 1), 5, api.OK)
			b.holds(l[0], object("b", 2, 5, 1))
			b.applies(delOf("a"), 6, api.OK)
			b.applies(putOf("c", 4, 2, 0), 7, api.OK)
			b.holds(object("b", 2, 5, 1), object("c", 4, 7, 2, 0))
		}
	}
}

// P19.1, P19.3: a catalog that is made of what another one tells goes on as that one.
func TestMadeAnew(t *testing.T) {
	b := made(t, single)
	for n := range 40 {
		stripes, err := b.plan(key(n%7), n%11)
		if err != api.OK {
			t.Fatalf("Plan: %d", err)
		}
		b.applies(putOf(key(n%7), n%11, stripes...), n, api.OK)
		if n%3 == 0 {
			b.apply(delOf(key(n%5)), n)
		}
		l := b.c.All()
		slices.Reverse(l)
		b = &both{t, made(t, single, l...).c, b.m}
		b.stands()
	}
}
