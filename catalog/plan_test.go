package catalog_test

import (
	"math"
	"slices"
	"strings"
	"testing"

	"aumbry/api"
)

// P19.2: a key of 1 to MaxKey bytes, any bytes; whether an object has it or not.
func TestPlanKeys(t *testing.T) {
	b := made(t, example, object("k", 3, 1, 0, 1))
	for length := range 300 {
		if length >= 1 && length <= maxKey {
			b.plans(strings.Repeat("k", length), 2, []int{2}, api.OK)
		} else {
			b.plans(strings.Repeat("k", length), 2, nil, api.ErrBadKey)
		}
	}
	for first := range 256 {
		b.plans(string([]byte{byte(first)}), 1, []int{2}, api.OK)
	}
	b.plans(strings.Repeat("é", maxKey/2), 1, []int{2}, api.OK)
	b.plans(strings.Repeat("é", maxKey/2+1), 1, nil, api.ErrBadKey)
	b.plans(strings.Repeat("k", 1<<20), 1, nil, api.ErrBadKey)
}

// P19.2: a length of 0 to MaxNumber; of one that may be, and needs more than there is, ErrNoSpace.
func TestPlanLengths(t *testing.T) {
	for _, g := range geometries() {
		b := made(t, g)
		whole := g.K * g.Size
		most := whole * g.Stripes
		for _, length := range []int{-1, -2, -whole, -maxNumber, math.MinInt, -1 << 32, maxNumber + 1, maxNumber + 2, 1 << 32, 1<<32 + 1, math.MaxInt} {
			b.plans("a", length, nil, api.ErrArg)
		}
		b.plans("a", 0, nil, api.OK)
		b.plans("a", 1, []int{0}, api.OK)
		b.plans("a", whole, []int{0}, api.OK)
		b.plans("a", most, run(0, g.Stripes), api.OK)
		for _, length := range []int{most + 1, most + whole, most + whole + 1, maxNumber - 1, maxNumber} {
			b.plans("a", length, nil, api.ErrNoSpace)
		}
	}
}

// P19.2: as many stripes as layout.Needs tells, at each length.
func TestPlanHowMany(t *testing.T) {
	for _, g := range geometries() {
		b := made(t, g)
		whole := g.K * g.Size
		for n := range g.Stripes + 1 {
			for _, length := range []int{n*whole - whole + 1, n*whole - 1, n * whole} {
				if length > (n-1)*whole && length >= 0 {
					b.plans("a", length, run(0, n), api.OK)
				}
			}
		}
	}
}

// P19.2: each edge with every other: which error is told first.
func TestPlanEdgesTogether(t *testing.T) {
	keys := []string{"", "a", "b", "c", strings.Repeat("k", maxKey), strings.Repeat("k", maxKey+1)}
	lengths := []int{-1, 0, 1, 2, 3, 4, 5, 6, 7, maxNumber, maxNumber + 1}
	for _, l := range [][]api.Object{
		nil, {object("a", 0, 0)}, {object("a", 3, 0, 0, 1)}, {object("a", 6, 0, 2, 0, 1)},
		{object("a", 0, 0), object("b", 0, 1)}, {object("a", 1, 0, 1), object("b", 2, 1, 0)}, {object("b", 5, 1, 0, 1, 2), object("a", 0, 0)},
	} {
		b := made(t, example, l...)
		for _, key := range keys {
			for _, length := range lengths {
				b.plan(key, length)
				b.stands()
			}
		}
	}
}

// P19.2: the order of the errors, by answers that are known.
func TestPlanWhichError(t *testing.T) {
	b := made(t, example, object("a", 5, 1, 0, 1, 2), object("b", 0, 2))
	b.plans("", -1, nil, api.ErrBadKey)
	b.plans("", 1, nil, api.ErrBadKey)
	b.plans(strings.Repeat("c", maxKey+1), maxNumber+1, nil, api.ErrBadKey)
	b.plans("c", -1, nil, api.ErrArg)
	b.plans("c", maxNumber+1, nil, api.ErrArg)
	b.plans("a", -1, nil, api.ErrArg)
	b.plans("c", 1, nil, api.ErrTooMany)
	b.plans("c", 0, nil, api.ErrTooMany)
	b.plans("c", maxNumber, nil, api.ErrTooMany)
	b.plans("a", 1, nil, api.ErrNoSpace)
	b.plans("b", 1, nil, api.ErrNoSpace)
	b.plans("b", maxNumber, nil, api.ErrNoSpace)
	b.plans("a", 0, nil, api.OK)
	b.plans("b", 0, nil, api.OK)
}

// P19.2: with as many objects as may be ErrTooMany only of a key that none has; with one fewer of none.
func TestPlanHowManyObjects(t *testing.T) {
	for objects := 1; objects <= maxObjects; objects++ {
		g := single
		g.Objects = objects
		b := made(t, g, keyed(objects-1)...)
		b.plans(key(objects-1), 2, []int{0, 1}, api.OK)
		b.plans("other", 2, []int{0, 1}, api.OK)
		b.applies(putOf(key(objects-1), 1, 1), 5, api.OK)
		b.plans("other", 2, nil, api.ErrTooMany)
		for n := range objects {
			b.plans(key(n), 2, []int{0, 2}, api.OK)
		}
		b.applies(delOf(key(0)), 6, api.OK)
		b.plans("other", 0, nil, api.OK)
	}
}

// P19.2: just as many free as are needed, and one fewer; which ones are free does not matter.
func TestPlanJustEnough(t *testing.T) {
	for taken := range maxStripes + 1 {
		free := maxStripes - taken
		for _, l := range [][]int{run(0, taken), run(free, taken)} {
			b := made(t, single, object("a", taken, 1, l...))
			want := b.m.free()
			for _, key := range []string{"a", "b"} {
				b.plans(key, free, want, api.OK)
				b.plans(key, free+1, nil, api.ErrNoSpace)
				if free > 0 {
					b.plans(key, free-1, want[:free-1], api.OK)
				}
			}
		}
	}
}

// P19.2: the stripes of the object that has the key are not free: what takes its place needs others.
func TestPlanKeyThatIsThere(t *testing.T) {
	b := made(t, api.Geometry{K: 2, M: 1, Size: 2, Stripes: 4, Slots: 2, Objects: 3}, object("a", 5, 1, 0, 2))
	b.plans("a", 5, []int{1, 3}, api.OK)
	b.plans("b", 5, []int{1, 3}, api.OK)
	b.plans("a", 1, []int{1}, api.OK)
	b.plans("a", 0, nil, api.OK)
	b.plans("a", 9, nil, api.ErrNoSpace)
	b.plans("a", 16, nil, api.ErrNoSpace)
}

// P19.2: the least free ones, rising, whichever are taken, and by how many objects.
func TestPlanEachSet(t *testing.T) {
	g := api.Geometry{K: 1, Size: 1, Stripes: 8, Slots: 1, Objects: maxObjects}
	for set := range 1 << g.Stripes {
		var taken, free []int
		var apart []api.Object
		for stripe := range g.Stripes {
			if set>>stripe&1 == 0 {
				free = append(free, stripe)
				continue
			}
			taken = append(taken, stripe)
			apart = append(apart, object(key(stripe), 1, stripe, stripe))
		}
		slices.Reverse(taken)
		for _, l := range [][]api.Object{{object("a", len(taken), 1, taken...)}, apart} {
			b := made(t, g, l...)
			for length := range g.Stripes + 2 {
				if length <= len(free) {
					b.plans("z", length, free[:length], api.OK)
				} else {
					b.plans("z", length, nil, api.ErrNoSpace)
				}
			}
		}
	}
}

// P19.2: what was planned is not taken: the same is planned again, and is free.
func TestPlanChangesNothing(t *testing.T) {
	b := made(t, example, object("a", 1, 9, 1))
	for _, call := range []struct {
		key    string
		length int
	}{{"a", 4}, {"b", 3}, {"", 1}, {"b", -1}, {"b", 5}, {"c", 0}, {"b", 3}, {"a", 1}} {
		b.plan(call.key, call.length)
		b.holds(object("a", 1, 9, 1))
		b.plans("b", 3, []int{0, 2}, api.OK)
		b.get("b")
	}
	if n := b.c.Free(); n != 2 {
		t.Errorf("Free() = %d", n)
	}
}

// P19.5: what is planned can be applied, at once, of each epoch that may be, and the keys' and lengths' edges.
func TestPlannedIsApplied(t *testing.T) {
	for _, g := range geometries() {
		whole := g.K * g.Size
		for _, key := range []string{"a", "b", "\x00", strings.Repeat("k", maxKey)} {
			for _, length := range []int{0, 1, whole - 1, whole, whole + 1, whole * (g.Stripes - 1), whole*g.Stripes - 1, whole * g.Stripes} {
				for _, epoch := range []int{0, 1, maxNumber} {
					b := made(t, g, object("a", 1, 3, 0))
					stripes, err := b.plan(key, length)
					if err == api.OK {
						b.applies(putOf(key, length, stripes...), epoch, api.OK)
					}
				}
			}
		}
	}
}
