package catalog_test

import (
	"math/rand"
	"slices"
	"testing"

	"aumbry/api"
)

// sound asks for P19.5: no stripe is two objects', nor one's twice; each object has as many as it needs; free ones and others are all there are.
func (b *both) sound() {
	b.t.Helper()
	count := make([]int, b.m.g.Stripes)
	held := 0
	for _, o := range b.c.All() {
		if len(o.Stripes) != b.m.needs(o.Length) {
			b.t.Fatalf("%v has not as many stripes as it needs", o)
		}
		for _, stripe := range o.Stripes {
			count[stripe]++
			held++
			if epoch, is := b.c.Owner(stripe); count[stripe] > 1 || epoch != o.Epoch || !is {
				b.t.Fatalf("the stripe %d of %v: %d, %v", stripe, o, epoch, is)
			}
		}
	}
	if held+b.c.Free() != b.m.g.Stripes {
		b.t.Fatalf("%d stripes are taken, %d are free", held, b.c.Free())
	}
}

// planned plans, and applies what was planned; OK is what it must tell (P19.5).
func (b *both) planned(key string, length, epoch int) bool {
	b.t.Helper()
	stripes, err := b.plan(key, length)
	if err != api.OK {
		return false
	}
	if !slices.IsSorted(stripes) {
		b.t.Fatalf("Plan: %d", stripes)
	}
	b.applies(putOf(key, length, stripes...), epoch, api.OK)
	return true
}

// P19.3 to P19.5: all runs of up to four of a few calls, on the chapter's geometry.
func TestAllShortRuns(t *testing.T) {
	records := []api.Record{
		delOf("a"), delOf("b"), putOf("a", 0), putOf("a", 1, 0), putOf("a", 3, 1, 2), putOf("a", 3, 0, 2),
		putOf("b", 2, 1), putOf("b", 4, 2, 0), putOf("b", 5, 0, 1, 2), putOf("c", 1, 2), putOf("c", 0),
	}
	runs := 0
	var all func(l []api.Object, left int)
	all = func(l []api.Object, left int) {
		for i, r := range records {
			runs++
			b := made(t, example, l...)
			b.plan(r.Key, r.Length)
			b.apply(r, left*20+i)
			b.sound()
			if left > 1 {
				all(b.c.All(), left-1)
			}
		}
	}
	all(nil, 4)
	if runs != 11+11*11+11*11*11+11*11*11*11 {
		t.Errorf("%d runs", runs)
	}
}

// some is any of what is given.
func some[T any](random *rand.Rand, l ...T) T {
	return l[random.Intn(len(l))]
}

// anyStripes are some that may be free, or not, or that there are not.
func anyStripes(random *rand.Rand, b *both, n int) []int {
	l := b.m.free()
	random.Shuffle(len(l), func(i, j int) { l[i], l[j] = l[j], l[i] })
	l = l[:min(len(l), max(n, 0))]
	if len(l) > 0 && random.Intn(3) == 0 {
		l[random.Intn(len(l))] = random.Intn(b.m.g.Stripes+3) - 1
	}
	return l
}

// anyPut is a put that fits, or not.
func anyPut(random *rand.Rand, b *both, key string) (api.Record, int) {
	length := anyLength(random, b)
	n := b.m.needs(max(length, 0))
	if random.Intn(10) == 0 {
		n += random.Intn(3) - 1
	}
	epoch := some(random, 0, 1, 5, random.Intn(1000), random.Intn(1000), maxNumber, maxNumber, maxNumber+1, -1)
	return putOf(key, length, anyStripes(random, b, n)...), epoch
}

// anyLength needs a few stripes, most often.
func anyLength(random *rand.Rand, b *both) int {
	whole := b.m.g.K * b.m.g.Size
	if random.Intn(30) == 0 {
		return some(random, -1, maxNumber, maxNumber+1, whole*b.m.g.Stripes)
	}
	return random.Intn(whole*(b.m.g.Stripes/3+2) + 1)
}

// P19.3 to P19.5: long runs of calls, of all kinds and all geometries, as the words say of each.
func TestLongRuns(t *testing.T) {
	random := rand.New(rand.NewSource(19))
	told := map[api.Errno]int{}
	planned := 0
	for _, g := range geometries() {
		keys := []string{"", "a", "b", "c", "d", "e", "f", "\xFF", "a\x00"}
		b := made(t, g)
		for step := range 1500 {
			key := some(random, keys...)
			switch random.Intn(6) {
			case 0, 1:
				if b.planned(key, anyLength(random, b), step) {
					planned++
				}
			case 2, 3:
				r, epoch := anyPut(random, b, key)
				told[b.apply(r, epoch)]++
			case 4:
				told[b.apply(delOf(key), step)]++
			case 5:
				_, err := b.plan(key, anyLength(random, b))
				told[err]++
			}
			b.get(key)
			if step%10 == 0 {
				b.sound()
			}
		}
	}
	for _, err := range []api.Errno{api.OK, api.ErrArg, api.ErrBadKey, api.ErrTooMany, api.ErrNoSpace, api.ErrNotFound} {
		if told[err] < 100 {
			t.Errorf("%d was told %d times: the test tells too little", err, told[err])
		}
	}
	if planned < 1000 {
		t.Errorf("%d were planned: the test tells too little", planned)
	}
}

// P19.5: what is planned can be applied, till there is no room; all room is used, and comes again.
func TestFilledAndEmptied(t *testing.T) {
	for _, g := range geometries() {
		for _, size := range []int{1, 2, 3, 7} {
			b := made(t, g)
			length := size * g.K * g.Size
			n := 0
			for b.planned(key(n), length, n) {
				n++
			}
			if want := min(g.Objects, g.Stripes/size); n != want {
				t.Fatalf("%+v: %d objects of %d stripes, want %d", g, n, size, want)
			}
			b.sound()
			for i := range n {
				b.apply(delOf(key(5*i%n)), 0)
			}
			b.sound()
			for i := range n {
				b.apply(delOf(key(i)), 0)
			}
			b.holds()
			if free := b.c.Free(); free != g.Stripes {
				t.Fatalf("%+v: %d are free", g, free)
			}
		}
	}
}

// P19.5: objects put anew over and over, each with stripes beside its own, as long as there are such.
func TestPutAnewOverAndOver(t *testing.T) {
	b := made(t, api.Geometry{K: 1, Size: 1, Stripes: 10, Slots: 1, Objects: 3})
	for step := range 600 {
		if !b.planned(key(step%3), 2+step%2, step) {
			t.Fatalf("step %d: no room", step)
		}
		b.sound()
	}
}
