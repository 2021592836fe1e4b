package metalog_test

import (
	"testing"

	"aumbry/api"
	"aumbry/array"
	"aumbry/metalog"
)

// saveds are disks with so many checkpoints.
func saveds(t *testing.T, disks int, list ...api.Saved) (*array.Array, api.Geometry) {
	t.Helper()
	g := slots(1)
	a := fresh(t, disks, sizeOf(g))
	for _, s := range list {
		saves(t, a, g, s, api.OK)
	}
	return a, g
}

// P18.4: no area is whole: ErrDamaged, whoever knows.
func TestLatestNone(t *testing.T) {
	for disks := 1; disks <= 3; disks++ {
		a, g := saveds(t, disks)
		for _, know := range knowLists(disks) {
			latestFails(t, a, g, know, api.ErrDamaged)
		}
	}
}

// P18.4: one area is whole: it is told, if a disk that knows tells of both sectors of the other one that nothing is there.
func TestLatestOne(t *testing.T) {
	for _, l := range someObjects() {
		for _, epoch := range []int{0, 1, 1000, maxBase} {
			for area := range 2 {
				s := checkpoint(area, epoch, l...)
				a, g := saveds(t, 2, s)
				for _, know := range knowLists(2) {
					if isTold(know, 0, 1) {
						latest(t, a, g, know, s)
					} else {
						latestFails(t, a, g, know, api.ErrDamaged)
					}
				}
			}
		}
	}
}

// P18.4: both are whole: that of the greater epoch, in either area, and of one epoch that of the area 0; no witness is needed.
func TestLatestBoth(t *testing.T) {
	epochs := []int{0, 1, 2, 255, 256, 1 << 24, maxBase - 1, maxBase}
	for _, epoch0 := range epochs {
		for _, epoch1 := range epochs {
			for _, first := range []int{0, 1} {
				both := []api.Saved{checkpoint(0, epoch0, object("zero", 1, 2, 3)), checkpoint(1, epoch1, object("one", 4, 5, 6))}
				// Which of them was saved last tells nothing.
				a, g := saveds(t, 2, both[first], both[1-first])
				want := both[0]
				if epoch1 > epoch0 {
					want = both[1]
				}
				for _, know := range [][]bool{nil, {true}, {false, true}, knowing(2)} {
					latest(t, a, g, know, want)
				}
			}
		}
	}
}

// P18.4: of both, with lists of all lengths.
func TestLatestObjects(t *testing.T) {
	for _, l0 := range someObjects() {
		for _, l1 := range someObjects() {
			a, g := saveds(t, 1, checkpoint(0, 5, l0...), checkpoint(1, 6, l1...))
			latest(t, a, g, nil, checkpoint(1, 6, l1...))
			saves(t, a, g, checkpoint(0, 7, l0...), api.OK)
			latest(t, a, g, nil, checkpoint(0, 7, l0...))
			saves(t, a, g, checkpoint(1, 7, l1...), api.OK)
			latest(t, a, g, nil, checkpoint(0, 7, l0...))
		}
	}
}

// halves lays an area's two sectors, each with an epoch and data of its own, past metalog; below 0: nothing.
func halves(t *testing.T, a *array.Array, area int, epochs [2]int, parts [2]string) {
	t.Helper()
	for i, epoch := range epochs {
		if epoch >= 0 {
			laysAll(t, a, areaPlace(area, i), epoch, parts[i])
		}
	}
}

// notWhole asks that an area counts for nothing: with a witness the other one is told, of whatever epoch, without one nothing is, and nothing if the other one is not there.
func notWhole(t *testing.T, area int, lay func(a *array.Array)) {
	t.Helper()
	for _, epoch := range []int{0, 5, maxBase} {
		other := checkpoint(1-area, epoch, object("other", 1, 1, 1))
		a, g := saveds(t, 2, other)
		lay(a)
		latest(t, a, g, knowing(2), other)
		latest(t, a, g, []bool{false, true}, other)
		latestFails(t, a, g, nil, api.ErrDamaged)
		latestFails(t, a, g, []bool{false, false, true}, api.ErrDamaged)
	}
	a, g := saveds(t, 2)
	lay(a)
	latestFails(t, a, g, knowing(2), api.ErrDamaged)
	latestFails(t, a, g, nil, api.ErrDamaged)
}

// P18.4: an area's sectors have unlike epochs, or one has nothing: it is not whole.
func TestLatestUnlikeEpochs(t *testing.T) {
	parts := savedParts(someObjects()[5])
	for _, parts := range [][2]string{parts, savedParts(nil)} {
		for _, epochs := range [][2]int{{9, 8}, {8, 9}, {0, 1}, {1, 0}, {9, -1}, {-1, 9}, {0, -1}, {-1, 0}, {maxNumber, 0}, {maxBase, maxBase - 1}} {
			for area := range 2 {
				notWhole(t, area, func(a *array.Array) { halves(t, a, area, epochs, parts) })
			}
		}
	}
}

// P18.4: an area's data are no objects: it is not whole, though its epoch is the greater one.
func TestLatestNoObjects(t *testing.T) {
	few, many := savedParts([]api.Object{object("a", 5, 1, 3)}), savedParts(someObjects()[5])
	for _, parts := range [][2]string{
		{}, {"", few[0]}, {few[0], few[0]}, {few[0] + "\x00", ""}, {few[0], "\x00"}, {few[0][1:], ""}, {few[0][:5], few[0][5:]},
		{many[0], ""}, {many[0], many[1] + "\x00"}, {many[0], many[1][1:]}, {many[1], many[0]}, {many[0][1:], many[1]}, {few[0], many[1]}, {many[0], many[0]},
		{recordBytes(put("a", 0)), ""}, {"\x00", ""}, {"\x00\x01", ""}, {"\x00\x00\x00", ""}, {"\x00", "\x00"},
		savedParts([]api.Object{object("b", 0, 0), object("a", 0, 0)}), savedParts([]api.Object{object("", 0, 0)}), savedParts([]api.Object{object("a", 0, maxNumber+1)}),
		savedParts(manyObjects(maxObjects+1, 2, 0)),
	} {
		for area := range 2 {
			notWhole(t, area, func(a *array.Array) { halves(t, a, area, [2]int{maxNumber, maxNumber}, parts) })
		}
	}
}

// P18.4: the one disk that knows is no witness of one of the sectors of an area that is not whole: ErrDamaged, whichever sector and area, though the other area is whole; a witness of it, and the other one is told.
func TestLatestWitness(t *testing.T) {
	for name, f := range fates() {
		t.Run(name, func(t *testing.T) {
			for area := range 2 {
				for i := range 2 {
					for knower := range 3 {
						other := checkpoint(1-area, 5, object("other", 1, 1, 1))
						a, g := saveds(t, 3, other)
						f.hurt(t, a, knower, areaPlace(area, i))
						know := make([]bool, 3)
						know[knower] = true
						if f.is {
							latest(t, a, g, know, other)
						} else {
							latestFails(t, a, g, know, api.ErrDamaged)
						}
					}
				}
			}
		})
	}
}

// P18.4: both sectors of an area that is not whole need a witness: one of them is not enough.
func TestLatestHalfWitnessed(t *testing.T) {
	for area := range 2 {
		for i := range 2 {
			other := checkpoint(1-area, 5)
			a, g := saveds(t, 2, other)
			lays(t, a, 0, areaPlace(area, i), "a")
			latestFails(t, a, g, []bool{true}, api.ErrDamaged)
			latest(t, a, g, knowing(2), other)
			lays(t, a, 1, areaPlace(area, 1-i), "a")
			// Each sector has a witness now, though no disk is one of both.
			latest(t, a, g, knowing(2), other)
			latestFails(t, a, g, []bool{true}, api.ErrDamaged)
			latestFails(t, a, g, []bool{false, true}, api.ErrDamaged)
		}
	}
}

// P18.4: an area that is whole needs no witness: it may be told by disks that do not know.
func TestLatestUnwitnessed(t *testing.T) {
	s := checkpoint(1, 5, object("a", 1, 1, 1))
	a, g := saveds(t, 3, s)
	spoils(t, a, 0, areaPlace(1, 0), 3)
	spoils(t, a, 1, areaPlace(1, 1), 3)
	a.Replace(2)
	for _, know := range knowLists(3) {
		if isTold(know, 0, 1, 2) {
			latest(t, a, g, know, s)
		} else {
			latestFails(t, a, g, know, api.ErrDamaged)
		}
	}
	both, g := saveds(t, 3, checkpoint(0, 6), s)
	for disk := range 2 {
		both.Fail(disk)
	}
	for _, know := range knowLists(3) {
		latest(t, both, g, know, checkpoint(0, 6))
	}
}

// P18.4: each sector is voted: a greater epoch on one disk alone makes an area of unlike epochs; of both sectors, a whole one.
func TestLatestVotes(t *testing.T) {
	elder, next := checkpoint(0, 5, object("a", 1, 1, 1)), checkpoint(1, 4)
	a, g := saveds(t, 3, elder, next)
	parts := savedParts([]api.Object{object("new", 0, 0)})
	lays(t, a, 2, areaPlace(0, 0), framed(areaPlace(0, 0), 6, parts[0]))
	latest(t, a, g, knowing(3), next)
	latestFails(t, a, g, nil, api.ErrDamaged)
	lays(t, a, 1, areaPlace(0, 1), framed(areaPlace(0, 1), 6, parts[1]))
	latest(t, a, g, nil, checkpoint(0, 6, object("new", 0, 0)))
	spoils(t, a, 2, areaPlace(0, 0), 1)
	latest(t, a, g, knowing(3), next)
	spoils(t, a, 1, areaPlace(0, 1), 1)
	latest(t, a, g, nil, elder)
}

// P18.4: epochs beyond those that may be saved are told as they are, if they lie there.
func TestLatestGreatEpochs(t *testing.T) {
	for _, epoch := range []int{maxBase + 1, maxNumber} {
		a, g := saveds(t, 2, checkpoint(0, maxBase, object("a", 1, 1, 1)))
		halves(t, a, 1, [2]int{epoch, epoch}, savedParts(nil))
		latest(t, a, g, nil, checkpoint(1, epoch))
	}
}

// P18.4: one area is told as long as each of its sectors is read on one disk.
func TestLatestHurt(t *testing.T) {
	for knower := range 3 {
		s := checkpoint(1, 7, someObjects()[5]...)
		a, g := saveds(t, 3, checkpoint(0, 3), s)
		labels(t, a, upTo(3), api.OK)
		for disk := range 3 {
			if disk != knower {
				a.Replace(disk)
			}
		}
		know, _ := metalog.Knows(a)
		latest(t, a, g, know, s)
		spoils(t, a, knower, areaPlace(1, 1), 1)
		latestFails(t, a, g, know, api.ErrDamaged)
		// A list that says of the replaced disks that they know is taken at its word.
		latest(t, a, g, knowing(3), checkpoint(0, 3))
	}
}

// P18.4: the power is gone: ErrCrashed, whichever disks are dead; a Latest brings a crash no nearer.
func TestLatestDown(t *testing.T) {
	for dead := range 1 << 2 {
		a, g := saveds(t, 2, checkpoint(0, 5))
		a.CrashAfter(1)
		for range 4 {
			latest(t, a, g, knowing(2), checkpoint(0, 5))
		}
		for _, disk := range chosen(dead, 2) {
			a.Fail(disk)
		}
		a.CrashAfter(0)
		for _, know := range [][]bool{nil, knowing(2)} {
			latestFails(t, a, g, know, api.ErrCrashed)
		}
	}
}

// P18.4: all disks are dead: ErrDamaged.
func TestLatestDead(t *testing.T) {
	a, g := saveds(t, 2, checkpoint(0, 5), checkpoint(1, 6))
	a.Fail(0)
	latest(t, a, g, nil, checkpoint(1, 6))
	a.Fail(1)
	for _, know := range knowLists(2) {
		latestFails(t, a, g, know, api.ErrDamaged)
	}
}

// P18.4: disks with fewer sectors than the areas have: of what lies beyond there is no witness.
func TestLatestBeyond(t *testing.T) {
	for size := 1; size <= 5; size++ {
		a := fresh(t, 2, size)
		g := slots(1)
		if size >= 3 {
			saves(t, a, g, checkpoint(0, 5), api.OK)
		}
		if size == 5 {
			latest(t, a, g, knowing(2), checkpoint(0, 5))
		} else {
			latestFails(t, a, g, knowing(2), api.ErrDamaged)
		}
	}
}

// P18.4: a geometry that may not be: ErrConfig, ahead of the power that is gone and of what is lost; no array: ErrArg, ahead of that.
func TestLatestWrong(t *testing.T) {
	for _, g := range wrongGeometries() {
		for _, know := range [][]bool{nil, {true}, knowing(2)} {
			for _, a := range anyDisks(t) {
				latestFails(t, a, g, know, api.ErrConfig)
			}
			latestFails(t, nil, g, know, api.ErrArg)
		}
	}
	latestFails(t, nil, slots(1), nil, api.ErrArg)
	latestFails(t, &array.Array{}, slots(1), knowing(1), api.ErrDamaged)
}

// P18.4: each of an area's sectors on each of two disks in each of some states, beside another area that is whole or not, held against the chapter's words.
func TestLatestAllStates(t *testing.T) {
	g := slots(1)
	one, two := savedParts([]api.Object{object("a", 0, 0)}), savedParts(someObjects()[5])
	for area := range 2 {
		first := []string{"", "a", framed(areaPlace(area, 0), 5, one[0]), framed(areaPlace(area, 0), 5, two[0]), framed(areaPlace(area, 0), 6, one[0])}
		second := []string{"", "a", framed(areaPlace(area, 1), 5, one[1]), framed(areaPlace(area, 1), 5, two[1]), framed(areaPlace(area, 1), 6, one[1])}
		for state := range 5 * 5 * 5 * 5 {
			a := fresh(t, 2, sizeOf(g))
			for disk, i := range []int{state % 25, state / 25} {
				for j, b := range []string{first[i%5], second[i/5]} {
					if b != "" {
						lays(t, a, disk, areaPlace(area, j), b)
					}
				}
			}
			for _, epoch := range []int{-1, 4, 5, 6} {
				if epoch >= 0 {
					saves(t, a, g, checkpoint(1-area, epoch, object("b", 0, 0)), api.OK)
				}
				m := modelOf(a, sizeOf(g), -1)
				for _, know := range [][]bool{nil, {true}, {false, true}, knowing(2)} {
					asLatest(t, a, m, g, know)
				}
			}
		}
	}
}
