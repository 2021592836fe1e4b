package layout_test

import (
	"math"
	"strconv"
	"testing"

	"aumbry/api"
	"aumbry/layout"
)

// thing is one that lies on each disk, and its place.
type thing struct {
	name  string
	place int
}

// things are all that lie on each disk, the label ahead, in the chapter's order.
func things(g api.Geometry) []thing {
	all := []thing{{"the label", 0}}
	for area := range 2 {
		for i := range areaSectors {
			all = append(all, thing{"Area(" + strconv.Itoa(area) + ", " + strconv.Itoa(i) + ")", layout.Area(g, area, i)})
		}
	}
	for i := range g.Slots {
		all = append(all, thing{"Slot(" + strconv.Itoa(i) + ")", layout.Slot(g, i)})
	}
	for i := range g.Stripes {
		all = append(all, thing{"Stripe(" + strconv.Itoa(i) + ")", layout.Stripe(g, i)})
	}
	return all
}

// P14.2: what lies on each disk lies at the places from 0 on, one behind the other, and Sectors tells how many these are.
func TestPlaces(t *testing.T) {
	for _, g := range geometries() {
		all := things(g)
		for want, thing := range all {
			answered(t, thing.name, g, thing.place, want)
		}
		answered(t, "Sectors()", g, layout.Sectors(g), len(all))
	}
}

// P14.4: no two things lie at one place, and none beside the disk's sectors.
func TestNoTwoAtOnePlace(t *testing.T) {
	for _, g := range geometries() {
		at := map[int]string{}
		for _, thing := range things(g) {
			if other, taken := at[thing.place]; taken {
				t.Fatalf("%s and %s of %+v lie at %d", other, thing.name, g, thing.place)
			}
			if thing.place < 0 || thing.place >= layout.Sectors(g) {
				t.Fatalf("%s of %+v lies at %d, of %d sectors", thing.name, g, thing.place, layout.Sectors(g))
			}
			at[thing.place] = thing.name
		}
	}
}

// P14.2: the first and the last of each kind, by hand.
func TestFirstAndLast(t *testing.T) {
	for _, c := range []struct {
		g                                                     api.Geometry
		sectors, firstSlot, lastSlot, firstStripe, lastStripe int
	}{
		{g: least, sectors: 7, firstSlot: 5, lastSlot: 5, firstStripe: 6, lastStripe: 6},
		{g: example, sectors: 13, firstSlot: 5, lastSlot: 7, firstStripe: 8, lastStripe: 12},
		{g: greatest, sectors: 325, firstSlot: 5, lastSlot: 68, firstStripe: 69, lastStripe: 324},
	} {
		g := c.g
		answered(t, "Sectors()", g, layout.Sectors(g), c.sectors)
		answered(t, "Area(0, 0)", g, layout.Area(g, 0, 0), 1)
		answered(t, "Area(0, 1)", g, layout.Area(g, 0, 1), 2)
		answered(t, "Area(1, 0)", g, layout.Area(g, 1, 0), 3)
		answered(t, "Area(1, 1)", g, layout.Area(g, 1, 1), 4)
		answered(t, "Slot(0)", g, layout.Slot(g, 0), c.firstSlot)
		answered(t, "Slot of the last", g, layout.Slot(g, g.Slots-1), c.lastSlot)
		answered(t, "Stripe(0)", g, layout.Stripe(g, 0), c.firstStripe)
		answered(t, "Stripe of the last", g, layout.Stripe(g, g.Stripes-1), c.lastStripe)
	}
}

// P14.2: a disk of the greatest geometry is one that a disk may be.
func TestSectorsFitADisk(t *testing.T) {
	if n := layout.Sectors(greatest); n > api.MaxSectors {
		t.Errorf("%d sectors", n)
	}
}

// P14.2: places hang on Slots and Stripes, not on the other numbers.
func TestPlacesOfOtherShards(t *testing.T) {
	g := api.Geometry{K: 9, M: 4, Size: 77, Stripes: example.Stripes, Slots: example.Slots, Objects: 50}
	want := things(example)
	for i, thing := range things(g) {
		answered(t, thing.name, g, thing.place, want[i].place)
	}
}

// outside are numbers that none of so many things has.
func outside(count int) []int {
	numbers := []int{-1, -2, -count, -count - 1, count, count + 1, 2 * count, math.MinInt, math.MaxInt}
	for _, n := range far {
		if n < 0 || n >= count {
			numbers = append(numbers, n)
		}
	}
	return numbers
}

// P14.2: an area, a sector of one, a slot or a stripe that there is not.
func TestNoSuchPlace(t *testing.T) {
	for _, g := range geometries() {
		for _, bad := range outside(2) {
			for i := range areaSectors {
				answered(t, "Area of no area", g, layout.Area(g, bad, i), 0)
				answered(t, "Area of no sector", g, layout.Area(g, i, bad), 0)
			}
			for _, other := range outside(areaSectors) {
				answered(t, "Area of neither", g, layout.Area(g, bad, other), 0)
			}
		}
		for _, bad := range outside(g.Slots) {
			answered(t, "Slot of no slot", g, layout.Slot(g, bad), 0)
		}
		for _, bad := range outside(g.Stripes) {
			answered(t, "Stripe of no stripe", g, layout.Stripe(g, bad), 0)
		}
	}
}

// R5: what is answered hangs on what is handed in, not on what was asked before.
func TestAskedAgain(t *testing.T) {
	first := things(example)
	for _, g := range append(geometries(), wrongGeometries()...) {
		layout.Check(g)
		layout.Sectors(g)
		layout.Slot(g, 1)
	}
	for i, thing := range things(example) {
		answered(t, thing.name, example, thing.place, first[i].place)
	}
}
