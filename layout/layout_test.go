package layout_test

import (
	"math"
	"testing"

	"aumbry/api"
	"aumbry/cauchy"
	"aumbry/layout"
)

// The limits, written out: what api says of them is asked for too.
const (
	maxDisks    = 32
	maxData     = 4096
	maxStripes  = 256
	maxSlots    = 64
	maxObjects  = 64
	areaSectors = 2
)

// example is the chapter's geometry.
var example = api.Geometry{K: 2, M: 1, Size: 4, Stripes: 5, Slots: 3, Objects: 2}

// least and greatest are the geometries at both ends of all limits.
var (
	least    = api.Geometry{K: 1, M: 0, Size: 1, Stripes: 1, Slots: 1, Objects: 1}
	greatest = api.Geometry{K: 16, M: 16, Size: maxData, Stripes: maxStripes, Slots: maxSlots, Objects: maxObjects}
)

// far are numbers that nothing has, those among them whose lowest bytes are ones that may be.
var far = []int{
	-1, -2, -32, -256, -4096, -1 << 31, -1 << 32, 1 - 1<<32, -1 << 62,
	4097, 1 << 16, 1<<16 + 1, 1 << 31, 1 << 32, 1<<32 + 1, 1<<32 + 2, 1 << 62, 1<<62 + 1,
	math.MinInt, math.MinInt + 1, math.MinInt + 2, math.MinInt + 32, math.MaxInt - 32, math.MaxInt - 1, math.MaxInt,
}

// geometries are some that may be, both ends among them.
func geometries() []api.Geometry {
	all := []api.Geometry{
		example, least, greatest,
		{K: 1, M: 1, Size: 1, Stripes: 4, Slots: 1, Objects: 1},
		{K: 2, M: 1, Size: 2, Stripes: 4, Slots: 2, Objects: 3},
		{K: 3, M: 2, Size: 7, Stripes: 11, Slots: 64, Objects: 64},
		{K: 4, M: 0, Size: 4095, Stripes: 9, Slots: 5, Objects: 1},
		{K: 1, M: 6, Size: 100, Stripes: 255, Slots: 63, Objects: 63},
		{K: 32, M: 0, Size: 4096, Stripes: 256, Slots: 1, Objects: 64},
		{K: 1, M: 31, Size: 3, Stripes: 1, Slots: 64, Objects: 2},
		{K: 31, M: 1, Size: 1, Stripes: 33, Slots: 2, Objects: 1},
		{K: 20, M: 11, Size: 512, Stripes: 200, Slots: 30, Objects: 20},
	}
	for disks := 1; disks <= maxDisks; disks++ {
		all = append(all, api.Geometry{K: disks, M: 0, Size: disks, Stripes: 2*disks + 1, Slots: 1 + disks, Objects: disks})
	}
	return all
}

// with is a geometry one of whose fields is another number.
func with(g api.Geometry, set func(*api.Geometry, int), n int) api.Geometry {
	set(&g, n)
	return g
}

// field is one of a geometry's that has limits of its own.
type field struct {
	name string
	most int
	set  func(*api.Geometry, int)
}

func fields() []field {
	return []field{
		{"Size", maxData, func(g *api.Geometry, n int) { g.Size = n }},
		{"Stripes", maxStripes, func(g *api.Geometry, n int) { g.Stripes = n }},
		{"Slots", maxSlots, func(g *api.Geometry, n int) { g.Slots = n }},
		{"Objects", maxObjects, func(g *api.Geometry, n int) { g.Objects = n }},
	}
}

// checked asks Check for one answer.
func checked(t *testing.T, g api.Geometry, want api.Errno) {
	t.Helper()
	if err := layout.Check(g); err != want {
		t.Errorf("Check(%+v) = %d, want %d", g, err, want)
	}
}

// answered asks for a number.
func answered(t *testing.T, call string, g api.Geometry, got, want int) {
	t.Helper()
	if got != want {
		t.Fatalf("%s of %+v = %d, want %d", call, g, got, want)
	}
}

// The section Errors, and the limits that the chapter names.
func TestNumbers(t *testing.T) {
	if api.OK != 0 || api.ErrConfig != 50 {
		t.Errorf("errors are %d and %d", api.OK, api.ErrConfig)
	}
	if err := layout.Check(api.Geometry{}); err != 50 {
		t.Errorf("Check of nothing = %d", err)
	}
	if err := layout.Check(example); err != 0 {
		t.Errorf("Check of the example = %d", err)
	}
	got := [...]int{api.MaxDisks, api.MaxData, api.MaxStripes, api.MaxSlots, api.MaxObjects, api.AreaSectors}
	if got != [...]int{maxDisks, maxData, maxStripes, maxSlots, maxObjects, areaSectors} {
		t.Errorf("limits are %v", got)
	}
}

// The chapter's examples.
func TestExamples(t *testing.T) {
	g := example
	answered(t, "Sectors()", g, layout.Sectors(g), 13)
	answered(t, "Area(1, 0)", g, layout.Area(g, 1, 0), 3)
	answered(t, "Slot(2)", g, layout.Slot(g, 2), 7)
	answered(t, "Stripe(0)", g, layout.Stripe(g, 0), 8)
	answered(t, "Disk(4, 2)", g, layout.Disk(g, 4, 2), 0)
	answered(t, "Shard(4, 0)", g, layout.Shard(g, 4, 0), 2)
	answered(t, "Needs(0)", g, layout.Needs(g, 0), 0)
	answered(t, "Needs(8)", g, layout.Needs(g, 8), 1)
	answered(t, "Needs(9)", g, layout.Needs(g, 9), 2)
}

// P14.1: geometries that may be, both ends of all limits among them.
func TestCheckTakes(t *testing.T) {
	for _, g := range geometries() {
		checked(t, g, api.OK)
	}
}

// P14.1: Size, Stripes, Slots and Objects one by one, at all numbers about their limits, and far from them.
func TestCheckFields(t *testing.T) {
	for _, g := range []api.Geometry{example, least, greatest} {
		for _, f := range fields() {
			for n := -3; n <= f.most+3; n++ {
				want := api.OK
				if n < 1 || n > f.most {
					want = api.ErrConfig
				}
				checked(t, with(g, f.set, n), want)
			}
			for _, n := range far {
				checked(t, with(g, f.set, n), api.ErrConfig)
			}
		}
	}
}

// P14.1: the edges of each field one by one.
func TestCheckEdges(t *testing.T) {
	for _, f := range fields() {
		for _, n := range []int{1, 2, f.most - 1, f.most} {
			checked(t, with(example, f.set, n), api.OK)
		}
		for _, n := range []int{0, -1, -f.most, f.most + 1, f.most + 2, math.MinInt, math.MaxInt} {
			checked(t, with(example, f.set, n), api.ErrConfig)
		}
	}
}

// shards is the example with other K and M.
func shards(k, m int) api.Geometry {
	g := example
	g.K, g.M = k, m
	return g
}

// P14.1: all K and M about the limits of disks and of shards, and far from them, some of whose sums wrap round.
func TestCheckShards(t *testing.T) {
	numbers := append([]int{}, far...)
	for n := -3; n <= 260; n++ {
		numbers = append(numbers, n)
	}
	for _, k := range numbers {
		for _, m := range numbers {
			want := api.ErrConfig
			if k >= 1 && k <= maxDisks && m >= 0 && m <= maxDisks-k {
				want = api.OK
			}
			checked(t, shards(k, m), want)
		}
	}
}

// P14.1: the edges of K and M one by one.
func TestCheckShardEdges(t *testing.T) {
	for _, pair := range [][2]int{{1, 0}, {1, 1}, {1, 31}, {31, 1}, {32, 0}, {16, 16}, {20, 12}, {31, 0}, {1, 30}} {
		checked(t, shards(pair[0], pair[1]), api.OK)
	}
	for _, pair := range [][2]int{
		{0, 0}, {0, 1}, {0, 32}, {-1, 1}, {-1, 3}, {1, -1}, {32, -1}, {33, -1}, {-1, 33},
		{math.MinInt, math.MinInt}, {math.MaxInt, math.MaxInt}, {math.MinInt, math.MaxInt}, {math.MaxInt, math.MinInt},
		{math.MaxInt, math.MinInt + 2}, {math.MinInt + 2, math.MaxInt}, {math.MinInt, 1}, {1, math.MinInt}, {math.MaxInt, 0}, {1, math.MaxInt},
		{1<<32 + 1, 1}, {1, 1 << 32}, {1 << 62, 1 << 62},
	} {
		checked(t, shards(pair[0], pair[1]), api.ErrConfig)
	}
}

// P14.1: K and M that cauchy.Check takes, and whose sum is more than MaxDisks.
func TestCheckManyDisks(t *testing.T) {
	for _, pair := range [][2]int{{33, 0}, {32, 1}, {1, 32}, {20, 13}, {17, 16}, {16, 17}, {256, 0}, {1, 255}, {128, 128}} {
		if err := cauchy.Check(pair[0], pair[1]); err != api.OK {
			t.Fatalf("cauchy.Check%v = %d", pair, err)
		}
		checked(t, shards(pair[0], pair[1]), api.ErrConfig)
	}
}

// wrongGeometries are some that may not be, of which the numbers that are handed in beside them might be had.
func wrongGeometries() []api.Geometry {
	wrong := []api.Geometry{{}}
	for _, pair := range [][2]int{
		{0, 0}, {0, 3}, {33, 0}, {32, 1}, {1, 32}, {-1, 3}, {2, -1}, {4, -1}, {256, 0}, {1 << 62, 1 << 62},
		{math.MinInt, math.MaxInt}, {math.MaxInt, math.MaxInt}, {math.MinInt, math.MinInt}, {math.MaxInt, math.MinInt + 4}, {math.MinInt + 4, math.MaxInt},
	} {
		wrong = append(wrong, shards(pair[0], pair[1]))
	}
	for _, f := range fields() {
		for _, n := range append([]int{0, f.most + 1}, far...) {
			if n < 1 || n > f.most {
				wrong = append(wrong, with(example, f.set, n))
			}
		}
	}
	for _, n := range far {
		wrong = append(wrong, api.Geometry{K: n, M: n, Size: n, Stripes: n, Slots: n, Objects: n})
	}
	return wrong
}

// P14.2, P14.3: of a geometry that may not be all others answer 0.
func TestWrongGeometries(t *testing.T) {
	numbers := append([]int{0, 1, 2, 3, 8, 31, 32, 255, 256, 1000}, far...)
	for _, g := range wrongGeometries() {
		checked(t, g, api.ErrConfig)
		answered(t, "Sectors()", g, layout.Sectors(g), 0)
		for _, x := range numbers {
			answered(t, "Slot()", g, layout.Slot(g, x), 0)
			answered(t, "Stripe()", g, layout.Stripe(g, x), 0)
			answered(t, "Needs()", g, layout.Needs(g, x), 0)
			for _, y := range numbers {
				answered(t, "Area()", g, layout.Area(g, x, y), 0)
				answered(t, "Disk()", g, layout.Disk(g, x, y), 0)
				answered(t, "Shard()", g, layout.Shard(g, x, y), 0)
			}
		}
	}
}
