package stripeio_test

import (
	"math"
	"testing"

	"aumbry/api"
	"aumbry/array"
	"aumbry/gf"
	"aumbry/stripeio"
)

// wrongGeometries are some that may not be, each for a reason of its own.
func wrongGeometries() []api.Geometry {
	return []api.Geometry{
		{},
		{K: 0, M: 1, Size: 1, Stripes: 2, Slots: 1, Objects: 1},
		{K: 2, M: -1, Size: 1, Stripes: 2, Slots: 1, Objects: 1},
		{K: -2, M: 1, Size: -1, Stripes: 2, Slots: 1, Objects: 1},
		{K: 20, M: 13, Size: 1, Stripes: 2, Slots: 1, Objects: 1},
		{K: 33, M: 0, Size: 1, Stripes: 2, Slots: 1, Objects: 1},
		{K: 2, M: 1, Size: 0, Stripes: 2, Slots: 1, Objects: 1},
		{K: 2, M: 1, Size: maxData + 1, Stripes: 2, Slots: 1, Objects: 1},
		{K: 2, M: 1, Size: 1, Stripes: 0, Slots: 1, Objects: 1},
		{K: 2, M: 1, Size: 1, Stripes: 257, Slots: 1, Objects: 1},
		{K: 2, M: 1, Size: 1, Stripes: math.MinInt, Slots: 1, Objects: 1},
		{K: 2, M: 1, Size: 1, Stripes: 2, Slots: 0, Objects: 1},
		{K: 2, M: 1, Size: 1, Stripes: 2, Slots: 65, Objects: 1},
		{K: 2, M: 1, Size: 1, Stripes: 2, Slots: 1, Objects: 0},
		{K: 2, M: 1, Size: 1, Stripes: 2, Slots: 1, Objects: 65},
		{K: 1 << 32, M: 1, Size: 1 << 32, Stripes: 2, Slots: 1, Objects: 1},
		{K: 1 << 62, M: 1 << 62, Size: 1 << 62, Stripes: 1 << 62, Slots: 1 << 62, Objects: 1 << 62},
		{K: math.MaxInt, M: math.MinInt + 4, Size: math.MaxInt, Stripes: math.MaxInt, Slots: math.MaxInt, Objects: math.MaxInt},
		{K: math.MinInt, M: math.MinInt, Size: math.MinInt, Stripes: math.MinInt, Slots: math.MinInt, Objects: math.MinInt},
	}
}

// refused asks all three for one error, with zero values beside it.
func refused(t *testing.T, a *array.Array, f *gf.Field, g api.Geometry, stripe, epoch int, data []byte, want api.Errno) {
	t.Helper()
	if err := stripeio.Write(a, f, g, stripe, epoch, data); err != want {
		t.Fatalf("Write(%v, %+v, %d, %d, %d bytes) = %d, want %d", a != nil, g, stripe, epoch, len(data), err, want)
	}
	got, bad, err := stripeio.Read(a, f, g, stripe, epoch)
	if err != want || len(got) != 0 || len(bad) != 0 {
		t.Fatalf("Read(%v, %+v, %d, %d) = %v, %v, %d, want %d", a != nil, g, stripe, epoch, got, bad, err, want)
	}
	n, err := stripeio.Fix(a, f, g, stripe, epoch)
	if err != want || n != 0 {
		t.Fatalf("Fix(%v, %+v, %d, %d) = %d, %d, want %d", a != nil, g, stripe, epoch, n, err, want)
	}
}

// hurt is a world with two stripes, a shard of each missing, so that all three calls had something to do.
func hurt(t *testing.T) world {
	t.Helper()
	w := fresh(t, example)
	w.writes(0, 3, []byte{1, 2}, api.OK)
	w.writes(1, 3, []byte{3, 4}, api.OK)
	w.flushes()
	w.a.Replace(0)
	return w
}

// P15.1: no array, no field, both: ErrArg, ahead of a geometry, a stripe, an epoch and data that may not be.
func TestNoArrayNoField(t *testing.T) {
	w := hurt(t)
	before := snapshot(w.a)
	for _, g := range append(wrongGeometries(), example, sturdy, widest) {
		for _, n := range []int{0, 1, -1, 2, math.MinInt, math.MaxInt} {
			for _, data := range [][]byte{nil, {1}, {1, 2}, {1, 2, 3}} {
				refused(t, nil, w.f, g, n, 3, data, api.ErrArg)
				refused(t, w.a, nil, g, n, 3, data, api.ErrArg)
				refused(t, nil, nil, g, n, 3, data, api.ErrArg)
				refused(t, w.a, nil, g, 0, n, data, api.ErrArg)
				refused(t, nil, w.f, g, 0, n, data, api.ErrArg)
			}
		}
	}
	holds(t, "behind calls without an array or a field", w.a, before)
	w.a.CrashAfter(0)
	refused(t, w.a, nil, example, 0, 3, []byte{1, 2}, api.ErrArg)
}

// P15.1: a geometry that may not be: layout.Check's error, ahead of a stripe, an epoch and data, and of the power that is gone.
func TestWrongGeometry(t *testing.T) {
	w := hurt(t)
	for range 2 {
		before := snapshot(w.a)
		for _, g := range wrongGeometries() {
			for _, n := range []int{0, 1, 3, -1, 2, math.MinInt, math.MaxInt} {
				for _, data := range [][]byte{nil, {1}, {1, 2}, {1, 2, 3}} {
					refused(t, w.a, w.f, g, n, 3, data, api.ErrConfig)
					refused(t, w.a, w.f, g, 0, n, data, api.ErrConfig)
				}
			}
		}
		holds(t, "behind calls of a wrong geometry", w.a, before)
		w.a.CrashAfter(0)
	}
}

// far are numbers far from those that may be, those among them whose lowest bytes are ones that may be.
var far = []int{
	-1, -2, -256, -1 << 31, -1<<31 + 1, -1 << 32, 1 - 1<<32, 3 - 1<<32, -1 << 62, math.MinInt, math.MinInt + 1,
	1 << 31, 1<<31 + 1, 1 << 32, 1<<32 + 1, 1<<32 + 3, 1 << 62, math.MaxInt - 1, math.MaxInt,
}

// P15.1: a stripe that there is not: ErrArg, ahead of the power that is gone.
func TestWrongStripe(t *testing.T) {
	for _, g := range geometries() {
		w := fresh(t, g)
		for range 2 {
			before := snapshot(w.a)
			for _, stripe := range append([]int{g.Stripes, g.Stripes + 1, -g.Stripes}, far...) {
				refused(t, w.a, w.f, g, stripe, 3, someData(g, 1), api.ErrArg)
			}
			holds(t, "behind calls of a wrong stripe", w.a, before)
			w.a.CrashAfter(0)
		}
	}
}

// P15.1: an epoch that may not be: ErrArg, ahead of the power that is gone.
func TestWrongEpoch(t *testing.T) {
	for _, g := range geometries() {
		w := fresh(t, g)
		for range 2 {
			before := snapshot(w.a)
			for _, epoch := range append([]int{maxNumber + 1, maxNumber + 2}, far...) {
				refused(t, w.a, w.f, g, 0, epoch, someData(g, 1), api.ErrArg)
			}
			holds(t, "behind calls of a wrong epoch", w.a, before)
			w.a.CrashAfter(0)
		}
	}
}

// P15.1: the first and the last stripe and epoch may be, whatever the geometry.
func TestEdgesMayBe(t *testing.T) {
	for _, g := range geometries() {
		for _, stripe := range []int{0, g.Stripes - 1} {
			for _, epoch := range []int{0, 1, maxNumber - 1, maxNumber} {
				w := fresh(t, g)
				data := someData(g, stripe+epoch)
				w.writes(stripe, epoch, data, api.OK)
				w.reads(stripe, epoch, data)
				w.fixes(stripe, epoch, 0)
			}
		}
	}
}

// P15.1: Write of data that has not K · Size bytes: ErrArg, ahead of the power that is gone, and nothing is written.
func TestWrongData(t *testing.T) {
	for _, g := range geometries() {
		w := fresh(t, g)
		whole := g.K * g.Size
		for range 2 {
			before := snapshot(w.a)
			for _, length := range []int{0, whole - 1, whole + 1, whole + g.Size, 2 * whole, whole - g.Size, (g.K + g.M + 1) * g.Size} {
				if length != whole {
					w.writes(0, 3, someBytes(length, 1), api.ErrArg)
				}
			}
			w.writes(0, 3, nil, api.ErrArg)
			holds(t, "behind Write of wrong data", w.a, before)
			w.a.CrashAfter(0)
		}
		w.writes(0, 3, someBytes(whole, 1), api.ErrCrashed)
	}
}
