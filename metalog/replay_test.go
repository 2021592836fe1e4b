package metalog_test

import (
	"math"
	"slices"
	"testing"

	"aumbry/api"
	"aumbry/array"
)

// journal are disks, some of which know, with some records behind a base in so many slots.
func journal(t *testing.T, disks, n, base int, know []int, l ...api.Record) (*array.Array, api.Geometry) {
	t.Helper()
	g := slots(n)
	a := fresh(t, disks, sizeOf(g))
	labels(t, a, know, api.OK)
	for count, r := range l {
		appends(t, a, g, base, count, r, api.OK)
	}
	return a, g
}

// knowLists are lists of disks that know: none, shorter, as long and longer than so many disks.
func knowLists(disks int) [][]bool {
	all := [][]bool{nil}
	for length := range disks + 2 {
		for bits := range 1 << length {
			list := make([]bool, length)
			for _, i := range chosen(bits, length) {
				list[i] = true
			}
			all = append(all, list)
		}
	}
	return all
}

// isTold tells whether a list says of one of some disks that it knows.
func isTold(know []bool, disks ...int) bool {
	return slices.ContainsFunc(disks, func(disk int) bool { return disk < len(know) && know[disk] })
}

// P18.3: nothing was appended: no records, if a disk that knows is asked, else ErrDamaged.
func TestReplayNothing(t *testing.T) {
	for _, n := range []int{1, 2, maxSlots} {
		for _, base := range bases() {
			a, g := journal(t, 2, n, base, []int{0})
			for _, know := range knowLists(2) {
				if isTold(know, 0, 1) {
					replays(t, a, g, know, base)
				} else {
					replayFails(t, a, g, know, base, api.ErrDamaged)
				}
			}
		}
	}
}

// P18.3: all slots are full: all records, whether a disk knows or not.
func TestReplayFull(t *testing.T) {
	for _, n := range []int{1, 2, 9, maxSlots} {
		for _, base := range bases() {
			var l []api.Record
			for i := range n {
				l = append(l, someRecords()[i%9])
			}
			a, g := journal(t, 2, n, base, []int{0}, l...)
			for _, know := range knowLists(2) {
				replays(t, a, g, know, base, l...)
			}
		}
	}
}

// P18.3: some slots are full: all records, if a disk that knows tells of the next one.
func TestReplaySome(t *testing.T) {
	for n := 1; n <= 9; n++ {
		l := someRecords()[:n]
		a, g := journal(t, 3, n+1, 5, upTo(3), l...)
		for disk := range 3 {
			know := make([]bool, 3)
			know[disk] = true
			replays(t, a, g, know, 5, l...)
		}
		for _, know := range [][]bool{nil, {}, make([]bool, 3), {false, false, false, true}} {
			replayFails(t, a, g, know, 5, api.ErrDamaged)
		}
	}
}

// P18.3: of another base, lesser or greater, nothing is told.
func TestReplayBases(t *testing.T) {
	for _, at := range []int{0, 1, 5, 1000, maxBase} {
		a, g := journal(t, 2, 3, at, upTo(2), put("a", 0), put("b", 1, 0), del("a"))
		for _, base := range []int{0, 1, 2, 3, 4, 5, 6, 7, 8, 999, 1001, 1003, maxBase - 3, maxBase - 1, maxBase} {
			if base == at {
				replays(t, a, g, nil, base, put("a", 0), put("b", 1, 0), del("a"))
				continue
			}
			replays(t, a, g, knowing(2), base)
			replayFails(t, a, g, nil, base, api.ErrDamaged)
		}
	}
}

// P18.3: elder records lie behind: those of a base are told up to the first one of another epoch, lesser or greater, of a place behind or ahead.
func TestReplayElder(t *testing.T) {
	for _, elder := range []int{0, 1, 4, 5, 6, 9, maxBase} {
		for n := range 4 {
			a, g := journal(t, 2, 4, elder, upTo(2), del("e0"), del("e1"), del("e2"), del("e3"))
			var l []api.Record
			for i := range n {
				l = append(l, put("new", i, i))
				appends(t, a, g, 5, i, l[i], api.OK)
			}
			if elder == 5 {
				l = append(l, []api.Record{del("e0"), del("e1"), del("e2"), del("e3")}[n:]...)
				replays(t, a, g, nil, 5, l...)
				continue
			}
			replays(t, a, g, knowing(2), 5, l...)
			replayFails(t, a, g, nil, 5, api.ErrDamaged)
			replayFails(t, a, g, []bool{false, false, true}, 5, api.ErrDamaged)
		}
	}
}

// P18.3: a record of just the epoch, written past Append, is told; one of any other is not.
func TestReplayEpochs(t *testing.T) {
	for _, base := range []int{0, 5, maxBase} {
		for i := range 3 {
			for _, by := range []int{-5, -1, 0, 1, 2, 3, 50} {
				a, g := journal(t, 2, 3, base, upTo(2), del("0"), del("1"), del("2"))
				epoch := max(base+i+1+by, 0)
				laysAll(t, a, slotPlace(i), epoch, recordBytes(put("x", 1)))
				if by == 0 {
					l := []api.Record{del("0"), del("1"), del("2")}
					l[i] = put("x", 1)
					replays(t, a, g, nil, base, l...)
					continue
				}
				replays(t, a, g, knowing(2), base, []api.Record{del("0"), del("1"), del("2")}[:i]...)
				replayFails(t, a, g, nil, base, api.ErrDamaged)
			}
		}
	}
}

// noRecords are data that are none.
func noRecords() []string {
	b := recordBytes(put("a", 5, 3))
	list := []string{
		"", "\x00", b[:len(b)-1], b + "\x00", b[1:], "\x03" + b[1:], "\x00" + b[1:], "\x02" + b[1:], "\x01\x00" + b[2:],
		recordBytes(put("a", 5, maxStripes)), recordBytes(put("", 5)), recordBytes(put("a", maxNumber+1)), recordBytes(put("a", 1<<32-1)),
		b[:len(b)-2] + "\x01\x00", string(make([]byte, maxData)), savedParts(nil)[0],
	}
	return append(list, recordBytes(put(string(make([]byte, maxKey+1)), 0)))
}

// P18.3: a slot's data are no record: the records ahead of it, if there is a witness.
func TestReplayNoRecord(t *testing.T) {
	for _, data := range noRecords() {
		for i := range 3 {
			a, g := journal(t, 2, 3, 5, upTo(2), del("0"), del("1"), del("2"))
			laysAll(t, a, slotPlace(i), 5+i+1, data)
			replays(t, a, g, knowing(2), 5, []api.Record{del("0"), del("1"), del("2")}[:i]...)
			replays(t, a, g, []bool{false, true}, 5, []api.Record{del("0"), del("1"), del("2")}[:i]...)
			replayFails(t, a, g, []bool{false, false}, 5, api.ErrDamaged)
		}
	}
}

// P18.3: a slot has nothing ahead of others that have: what lies behind it is not told.
func TestReplayGap(t *testing.T) {
	for i := range 4 {
		a, g := journal(t, 2, 4, 5, upTo(2))
		for count := range 4 {
			if count != i {
				appends(t, a, g, 5, count, put("a", count), api.OK)
			}
		}
		replays(t, a, g, knowing(2), 5, []api.Record{put("a", 0), put("a", 1), put("a", 2)}[:i]...)
		replayFails(t, a, g, nil, 5, api.ErrDamaged)
	}
}

// fate is what may become of the disk that knows, and whether it is a witness of a place then.
type fate struct {
	hurt func(t *testing.T, a *array.Array, disk, place int)
	is   bool
}

func fates() map[string]fate {
	return map[string]fate{
		"unhurt": {func(*testing.T, *array.Array, int, int) {}, true},
		"dead":   {func(t *testing.T, a *array.Array, disk, place int) { a.Fail(disk) }, false},
		"elder": {func(t *testing.T, a *array.Array, disk, place int) {
			lays(t, a, disk, place, framed(place, 1, recordBytes(del("elder"))))
		}, true},
		"other data": {func(t *testing.T, a *array.Array, disk, place int) { lays(t, a, disk, place, framed(place, 1, "")) }, true},
		"no sector":  {func(t *testing.T, a *array.Array, disk, place int) { lays(t, a, disk, place, "a") }, false},
		"elsewhere's": {func(t *testing.T, a *array.Array, disk, place int) {
			lays(t, a, disk, place, framed(place+1, 1, recordBytes(del("a"))))
		}, false},
		"changed": {func(t *testing.T, a *array.Array, disk, place int) {
			lays(t, a, disk, place, framed(place, 1, recordBytes(del("a"))))
			spoils(t, a, disk, place, 9)
		}, false},
	}
}

// P18.3: the one disk that knows is dead, or can't be read as a sector behind the records: ErrDamaged, though another one could be read; else all records.
func TestReplayWitness(t *testing.T) {
	for name, w := range fates() {
		t.Run(name, func(t *testing.T) {
			for n := range 3 {
				for knower := range 3 {
					a, g := journal(t, 3, 3, 5, []int{knower}, []api.Record{del("0"), del("1")}[:n]...)
					w.hurt(t, a, knower, slotPlace(n))
					know := make([]bool, 3)
					know[knower] = true
					if w.is {
						replays(t, a, g, know, 5, []api.Record{del("0"), del("1")}[:n]...)
					} else {
						replayFails(t, a, g, know, 5, api.ErrDamaged)
					}
				}
			}
		})
	}
}

// P18.3: where a record is told by a disk that does not know, no witness is needed there.
func TestReplayUnwitnessed(t *testing.T) {
	a, g := journal(t, 3, 2, 5, []int{0}, del("0"), del("1"))
	a.Fail(0)
	spoils(t, a, 1, slotPlace(0), 3)
	spoils(t, a, 2, slotPlace(1), 3)
	for _, know := range knowLists(3) {
		replays(t, a, g, know, 5, del("0"), del("1"))
	}
	spoils(t, a, 1, slotPlace(1), 3)
	replayFails(t, a, g, []bool{true}, 5, api.ErrDamaged)
	// The disk 2 can't be read there either: it is no witness, whatever the list says.
	replayFails(t, a, g, knowing(3), 5, api.ErrDamaged)
}

// P18.3: each slot is voted: a greater epoch, or what most disks say.
func TestReplayVotes(t *testing.T) {
	a, g := journal(t, 5, 2, 5, upTo(5), put("a", 1))
	lays(t, a, 0, 5, framed(5, 6, recordBytes(put("b", 1))))
	lays(t, a, 1, 5, framed(5, 6, recordBytes(put("b", 1))))
	replays(t, a, g, knowing(5), 5, put("a", 1))
	a.Fail(2)
	a.Replace(3)
	replays(t, a, g, knowing(5), 5, put("b", 1))
	spoils(t, a, 0, 5, 0)
	replays(t, a, g, knowing(5), 5, put("a", 1)) // as many say a, which is less
	lays(t, a, 4, 5, framed(5, 7, recordBytes(put("a", 1))))
	replays(t, a, g, knowing(5), 5)
	lays(t, a, 4, 5, framed(5, 5, recordBytes(put("c", 1))))
	replays(t, a, g, knowing(5), 5, put("b", 1))
	// What is voted for is no record, though one is said.
	lays(t, a, 3, 5, framed(5, 6, ""))
	replays(t, a, g, knowing(5), 5)
}

// P18.3: what is told where disks were replaced, one of those that know being left.
func TestReplayReplaced(t *testing.T) {
	for knower := range 3 {
		a, g := journal(t, 3, 3, 5, upTo(3), put("a", 1, 0), del("a"))
		for disk := range 3 {
			if disk != knower {
				a.Replace(disk)
			}
		}
		know := make([]bool, 3)
		know[knower] = true
		knows(t, a, know...)
		replays(t, a, g, know, 5, put("a", 1, 0), del("a"))
		a.Replace(knower)
		knows(t, a, false, false, false)
		replayFails(t, a, g, make([]bool, 3), 5, api.ErrDamaged)
	}
}

// P18.3: the power is gone: ErrCrashed, whichever disks are dead; a Replay brings a crash no nearer.
func TestReplayDown(t *testing.T) {
	for dead := range 1 << 2 {
		a, g := journal(t, 2, 2, 5, upTo(2), del("a"))
		a.CrashAfter(1)
		for range 4 {
			replays(t, a, g, knowing(2), 5, del("a"))
		}
		for _, disk := range chosen(dead, 2) {
			a.Fail(disk)
		}
		a.CrashAfter(0)
		for _, know := range [][]bool{nil, knowing(2)} {
			replayFails(t, a, g, know, 5, api.ErrCrashed)
			replayFails(t, a, g, know, 0, api.ErrCrashed)
		}
	}
}

// P18.3: disks with fewer sectors than the geometry has: no disk tells of what lies beyond, so that no journal ends there.
func TestReplayBeyond(t *testing.T) {
	g := slots(3)
	for size := 1; size <= 8; size++ {
		a := fresh(t, 2, size)
		var l []api.Record
		for count := range max(size-5, 0) {
			l = append(l, put("a", count))
			appends(t, a, g, 0, count, l[count], api.OK)
		}
		if size == 8 {
			replays(t, a, g, knowing(2), 0, l...)
		} else {
			replayFails(t, a, g, knowing(2), 0, api.ErrDamaged)
		}
	}
}

// refusesReplay asks Replay for an error of what it is given, on disks in any state.
func refusesReplay(t *testing.T, g api.Geometry, base int, want api.Errno) {
	t.Helper()
	for _, a := range anyDisks(t) {
		for _, know := range [][]bool{nil, {true}, knowing(2), knowing(5)} {
			replayFails(t, a, g, know, base, want)
		}
	}
}

// P18.3: a base that may not be: ErrArg, ahead of the power that is gone and of what is lost; a geometry that may not be: ErrConfig, ahead of that.
func TestReplayWrong(t *testing.T) {
	for _, base := range wrongBases() {
		refusesReplay(t, slots(2), base, api.ErrArg)
	}
	for _, g := range wrongGeometries() {
		for _, base := range []int{0, -1, maxBase, maxBase + 1, math.MinInt} {
			refusesReplay(t, g, base, api.ErrConfig)
		}
	}
}

// P18.3: no array: ErrArg, ahead of all else.
func TestReplayNoArray(t *testing.T) {
	for _, g := range append(wrongGeometries(), slots(2)) {
		for _, base := range []int{0, -1, maxBase + 1} {
			for _, know := range [][]bool{nil, {true}} {
				replayFails(t, nil, g, know, base, api.ErrArg)
			}
		}
	}
}

// R1: an array that was made by hand has no disk that tells anything.
func TestHandMadeReplay(t *testing.T) {
	a := &array.Array{}
	replayFails(t, a, slots(2), nil, 0, api.ErrDamaged)
	replayFails(t, a, slots(2), []bool{true}, maxBase, api.ErrDamaged)
	replayFails(t, a, slots(2), nil, -1, api.ErrArg)
}

// P18.3: each slot of each of two disks in each of some states, held against the chapter's words, with all lists of disks that know.
func TestReplayAllStates(t *testing.T) {
	g := slots(2)
	states := []string{"", "a", framed(5, 6, recordBytes(del("a"))), framed(5, 6, recordBytes(put("a", 1))), framed(5, 7, recordBytes(del("a"))), framed(5, 6, "a")}
	behind := []string{"", "b", framed(6, 7, recordBytes(del("b"))), framed(6, 6, recordBytes(del("b"))), framed(6, 7, "")}
	for one, b0 := range states {
		for other, b1 := range states {
			for _, c0 := range behind {
				for _, c1 := range behind {
					a := fresh(t, 2, sizeOf(g))
					for disk, list := range [][]string{{b0, c0}, {b1, c1}} {
						for i, b := range list {
							if b != "" {
								lays(t, a, disk, slotPlace(i), b)
							}
						}
					}
					if (one+other)%5 == 1 {
						a.Fail(one % 2)
					}
					m := modelOf(a, sizeOf(g), -1)
					for _, know := range knowLists(2) {
						asReplays(t, a, m, g, know, 5)
					}
				}
			}
		}
	}
}
