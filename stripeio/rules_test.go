package stripeio_test

import (
	"bytes"
	"math"
	"slices"
	"testing"

	"aumbry/api"
	"aumbry/array"
	"aumbry/gf"
	"aumbry/stripeio"
)

// R1: an array that was made by hand has no disks: a Write is passed over, and nothing is there.
func TestHandMadeArray(t *testing.T) {
	w := world{t, &array.Array{}, gf.New(), example}
	w.writes(0, 1, []byte{1, 2}, api.OK)
	w.fails(0, 1, api.ErrDamaged)
	w.a.CrashAfter(0)
	w.writes(0, 1, []byte{1, 2}, api.ErrCrashed)
	w.fails(0, 1, api.ErrCrashed)
}

// R1, R5: a field that was made by hand is the field.
func TestHandMadeField(t *testing.T) {
	one, other := fresh(t, sturdy), fresh(t, sturdy)
	other.f = &gf.Field{}
	data := someData(sturdy, 1)
	for _, w := range []world{one, other} {
		w.writes(1, 9, data, api.OK)
		w.forges(1, 9, 0, 2)
		w.renews(1, 3)
		w.reads(1, 9, data, 0, 3)
		w.fixes(1, 9, 2)
		w.reads(1, 9, data)
	}
	holds(t, "behind calls with a hand-made field", other.a, snapshot(one.a))
}

// R1: at all numbers the calls end, and panic at nothing.
func TestNoPanics(t *testing.T) {
	numbers := []int{0, 1, -1, 2, 32, 256, maxNumber, 1 << 32, 1 << 62, math.MinInt, math.MaxInt}
	w := hurt(t)
	for _, n := range numbers {
		for _, m := range numbers {
			for _, g := range []api.Geometry{
				{K: n, M: m, Size: 1, Stripes: 2, Slots: 1, Objects: 1},
				{K: 2, M: 1, Size: n, Stripes: m, Slots: 1, Objects: 1},
				{K: n, M: 1, Size: m, Stripes: 2, Slots: 1, Objects: 1},
				{K: 2, M: 1, Size: 1, Stripes: 2, Slots: n, Objects: m},
			} {
				for _, data := range [][]byte{nil, {1, 2}} {
					stripeio.Write(w.a, w.f, g, n, m, data)
				}
				stripeio.Read(w.a, w.f, g, n, m)
				stripeio.Fix(w.a, w.f, g, n, m)
			}
		}
	}
}

// R3: calls that answer an error have not brought a crash that is to come nearer.
func TestErrorsCountNoWrites(t *testing.T) {
	w := hurt(t)
	w.a.CrashAfter(1)
	before := snapshot(w.a)
	for range 3 {
		w.writes(2, 3, []byte{1, 2}, api.ErrArg)
		w.writes(0, -1, []byte{1, 2}, api.ErrArg)
		w.writes(0, 3, []byte{1}, api.ErrArg)
		refused(t, w.a, w.f, api.Geometry{}, 0, 3, []byte{1, 2}, api.ErrConfig)
		w.fails(0, 4, api.ErrDamaged)
		w.fails(1, maxNumber, api.ErrDamaged)
	}
	holds(t, "behind calls that answer errors", w.a, before)
	w.fixes(0, 3, 1)
	if !w.a.Down() {
		t.Fatal("the power is there")
	}
}

// spoil writes over all that a list holds, spare room too.
func spoil[E any](list []E, with E) {
	room := list[:cap(list)]
	for i := range room {
		room[i] = with
	}
}

// R4: data is left as it was, spare room too, and what is changed in it later changes no disk.
func TestWriteMemory(t *testing.T) {
	for _, g := range geometries() {
		w := fresh(t, g)
		data := someData(g, 1)
		whole := slices.Concat([]byte("<<"), data, bytes.Repeat([]byte(">"), 2*g.Size*(g.K+g.M)))
		before := slices.Clone(whole)
		given := whole[2 : 2+len(data)]
		w.writes(0, 9, given, api.OK)
		if !bytes.Equal(whole, before) {
			t.Fatalf("what Write was given is %.60v now", whole)
		}
		laid := snapshot(w.a)
		spoil(whole, 0x33)
		holds(t, "behind a change of what was written", w.a, laid)
		w.a.Corrupt(on(g, 0, 0), placeOf(g, 0), 8, 0xFF)
		if slices.ContainsFunc(whole, func(b byte) bool { return b != 0x33 }) {
			t.Fatal("a disk shares memory with what was written")
		}
	}
}

// R4: what Read answers lies in memory of its own, spare room too.
func TestReadMemory(t *testing.T) {
	for _, g := range geometries() {
		w := fresh(t, g)
		stripe := g.Stripes - 1
		data := someData(g, 1)
		w.writes(stripe, 9, data, api.OK)
		var gone []int
		for shard := range g.M {
			w.renews(stripe, shard)
			gone = append(gone, shard)
		}
		before := snapshot(w.a)
		first, bad, _ := stripeio.Read(w.a, w.f, w.g, stripe, 9)
		second, worse, _ := stripeio.Read(w.a, w.f, w.g, stripe, 9)
		spoil(first, 0x33)
		spoil(bad, -1)
		if !bytes.Equal(second, data) || !slices.Equal(worse, gone) {
			t.Fatalf("two answers share memory: %.60v, %v", second, worse)
		}
		holds(t, "behind a change of what was read", w.a, before)
		w.reads(stripe, 9, data, gone...)
		w.fixes(stripe, 9, len(gone))
		if !bytes.Equal(second, data) || !slices.Equal(worse, gone) {
			t.Fatalf("Fix changed an answer: %.60v, %v", second, worse)
		}
		w.reads(stripe, 9, data)
	}
}

// R5: the same calls on two arrays are answered alike, whatever room the data has.
func TestAlike(t *testing.T) {
	for seed := range 20 {
		one, other := fresh(t, sturdy), fresh(t, sturdy)
		data := someData(sturdy, seed)
		roomy := append(make([]byte, 0, 1000), data...)
		one.writes(seed%7, seed, data, api.OK)
		other.writes(seed%7, seed, roomy, api.OK)
		holds(t, "two arrays", other.a, snapshot(one.a))
		for _, w := range []world{one, other} {
			w.forges(seed%7, seed, seed%5, seed%4)
			w.renews(seed%7, (seed+2)%5)
		}
		for range 3 {
			a, bad, err := stripeio.Read(one.a, one.f, one.g, seed%7, seed)
			b, worse, told := stripeio.Read(other.a, other.f, other.g, seed%7, seed)
			if !bytes.Equal(a, b) || !slices.Equal(bad, worse) || err != told || err != api.OK {
				t.Fatalf("%v, %v, %d; %v, %v, %d", a, bad, err, b, worse, told)
			}
		}
	}
}

// Two calls with two arrays at once: nothing is kept between them.
func TestTwoArrays(t *testing.T) {
	one, other := fresh(t, sturdy), fresh(t, example)
	one.writes(1, 9, someData(sturdy, 1), api.OK)
	before := snapshot(one.a)
	other.writes(1, 9, []byte{1, 2}, api.OK)
	other.renews(1, 0)
	other.fixes(1, 9, 1)
	holds(t, "behind calls with another array", one.a, before)
	one.reads(1, 9, someData(sturdy, 1))
	other.reads(1, 9, []byte{1, 2})
}
