package vote_test

import (
	"math"
	"slices"
	"testing"

	"aumbry/api"
	"aumbry/vote"
)

// orders goes through all orders of a list.
func orders[E any](list []E, yield func([]E)) {
	var put func(done, left []E)
	put = func(done, left []E) {
		if len(left) == 0 {
			yield(done)
		}
		for i := range left {
			rest := slices.Concat(left[:i], left[i+1:])
			put(append(slices.Clone(done), left[i]), rest)
		}
	}
	put(nil, list)
}

// readsInAnyOrder asks Read for one vote, in whatever order the disks stand.
func readsInAnyOrder(t *testing.T, want api.Vote, states ...state) {
	t.Helper()
	orders(states, func(order []state) {
		a := laid(t, 4, 2, order...)
		reads(t, a, nil, 2, want)
		want := want
		want.Witness = false
		for disk, s := range order {
			want.Witness = want.Witness || s.opens
			know := make([]bool, disk+1)
			for i := range know {
				know[i] = true
			}
			reads(t, a, know, 2, want)
		}
	})
}

// P17.1: no disk says anything: no vote.
func TestReadNothing(t *testing.T) {
	blank := blanks()[0]
	readsInAnyOrder(t, nothing(false), blank)
	readsInAnyOrder(t, nothing(false), blank, blanks()[1], blanks()[2])
	readsInAnyOrder(t, nothing(false), blank, dead(), spoilt()[2])
	readsInAnyOrder(t, nothing(false), dead(), dead())
	readsInAnyOrder(t, nothing(false), spoilt()[2], spoilt()[2], dead())
}

// P17.1: one says something, others nothing, others neither.
func TestReadOne(t *testing.T) {
	for _, data := range []string{"a", "", "\x00", "\xff", someBytes(maxData, 1)} {
		for _, epoch := range []int{0, 1, 5, 1 << 24, maxNumber - 1, maxNumber} {
			one, want := saysState(epoch, data), something(epoch, data, 1, false)
			readsInAnyOrder(t, want, one)
			readsInAnyOrder(t, want, one, blanks()[0], blanks()[1])
			readsInAnyOrder(t, want, one, dead(), spoilt()[2], blanks()[2])
		}
	}
}

// P17.1: unlike epochs: the greatest is told, however few say it, and whatever the data.
func TestReadEpochs(t *testing.T) {
	readsInAnyOrder(t, something(6, "b", 1, false), saysState(6, "b"), saysState(5, "a"), saysState(5, "a"), saysState(5, "a"))
	readsInAnyOrder(t, something(6, "", 1, false), saysState(6, ""), saysState(5, "a"), saysState(4, "a"))
	readsInAnyOrder(t, something(1, "z", 1, false), saysState(1, "z"), saysState(0, ""), saysState(0, ""))
	readsInAnyOrder(t, something(256, "z", 1, false), saysState(256, "z"), saysState(255, "a"), saysState(255, "a"), saysState(1, "a"))
	readsInAnyOrder(t, something(maxNumber, "z", 1, false), saysState(maxNumber, "z"), saysState(maxNumber-1, "a"), saysState(0, "a"))
	// What is said with another epoch counts for nothing, like data or not.
	readsInAnyOrder(t, something(6, "a", 1, false), saysState(6, "b"), saysState(6, "a"), saysState(5, "b"), saysState(5, "b"))
	readsInAnyOrder(t, something(6, "b", 2, false), saysState(6, "b"), saysState(6, "b"), saysState(6, "a"), saysState(5, "a"))
}

// P17.1: one epoch with unlike data: that which most disks say, least or not.
func TestReadMost(t *testing.T) {
	readsInAnyOrder(t, something(5, "b", 2, false), saysState(5, "b"), saysState(5, "b"), saysState(5, "a"))
	readsInAnyOrder(t, something(5, "a", 2, false), saysState(5, "a"), saysState(5, "a"), saysState(5, "b"))
	readsInAnyOrder(t, something(5, "b", 3, false), saysState(5, "b"), saysState(5, "b"), saysState(5, "b"), saysState(5, "a"), saysState(5, "a"))
	readsInAnyOrder(t, something(5, "b", 2, false), saysState(5, "b"), saysState(5, "b"), saysState(5, ""), saysState(5, "a"), saysState(5, "c"))
	readsInAnyOrder(t, something(0, "ab", 2, false), saysState(0, "ab"), saysState(0, "ab"), saysState(0, "a"), saysState(0, ""))
	readsInAnyOrder(t, something(0, "", 2, false), saysState(0, ""), saysState(0, ""), saysState(0, "a"), blanks()[0])
	readsInAnyOrder(t, something(5, "b", 2, false), saysState(5, "b"), saysState(5, "b"), saysState(5, "a"), dead(), spoilt()[2])
}

// P17.1: as many disks say unlike data: the least, byte by byte.
func TestReadLeast(t *testing.T) {
	whole := someBytes(maxData, 2)
	for _, two := range [][2]string{
		{"a", "b"}, {"", "a"}, {"", "\x00"}, {"a", "ab"}, {"a", "a\x00"}, {"ab", "b"}, {"az", "b"}, {"a\xff", "b"},
		{"\x7f", "\x80"}, {"\x00", "\xff"}, {"B", "a"}, {"10", "9"}, {"ab\x00c", "ab\x01"}, {"\xc3", "\xff\xff"},
		{whole[:maxData-1], whole}, {whole[:maxData-1] + "\x01", whole[:maxData-1] + "\x02"}, {"", whole},
	} {
		for _, epoch := range []int{0, 5, maxNumber} {
			least, other := saysState(epoch, two[0]), saysState(epoch, two[1])
			readsInAnyOrder(t, something(epoch, two[0], 1, false), least, other)
			readsInAnyOrder(t, something(epoch, two[0], 1, false), least, other, dead())
			readsInAnyOrder(t, something(epoch, two[0], 2, false), least, other, least, other)
			readsInAnyOrder(t, something(epoch, two[1], 2, false), least, other, other)
		}
	}
	readsInAnyOrder(t, something(5, "a", 1, false), saysState(5, "c"), saysState(5, "a"), saysState(5, "b"), saysState(5, "d"))
	readsInAnyOrder(t, something(5, "b", 2, false), saysState(5, "c"), saysState(5, "b"), saysState(5, "a"), saysState(5, "b"), saysState(5, "c"))
}

// P17.1: what can't be read as a sector of its place is not said, whatever is wrong with it.
func TestReadSpoilt(t *testing.T) {
	for _, s := range spoilt() {
		t.Run(s.name, func(t *testing.T) {
			a := laid(t, 4, 1, s)
			reads(t, a, []bool{true}, 1, nothing(false))
			a = laid(t, 4, 1, s, saysState(5, "b"), s)
			reads(t, a, []bool{true, false, true}, 1, something(5, "b", 1, false))
			reads(t, a, []bool{true, true}, 1, something(5, "b", 1, true))
			a = laid(t, 4, 1, s, s, s, blanks()[0])
			reads(t, a, []bool{true, true, true}, 1, nothing(false))
			reads(t, a, []bool{false, false, false, true}, 1, nothing(true))
		})
	}
}

// P17.1: Witness: each of one to three disks in each state, with each list of disks that know.
func TestReadWitness(t *testing.T) {
	states := []state{saysState(5, "a"), blanks()[0], blanks()[1], dead(), spoilt()[2]}
	for n := range 5 * 5 * 5 {
		which := []int{n % 5, n / 5 % 5, n / 25}
		for disks := 1; disks <= 3; disks++ {
			a := fresh(t, disks, 4)
			said := 0
			for disk, i := range which[:disks] {
				states[i].lay(t, a, disk, 3)
				if i == 0 {
					said++
				}
			}
			for _, knows := range lists(disks) {
				witness := false
				for disk, knows := range knows {
					witness = witness || knows && disk < disks && states[which[disk]].opens
				}
				want := nothing(witness)
				if said > 0 {
					want = something(5, "a", said, witness)
				}
				reads(t, a, knows, 3, want)
			}
		}
	}
}

// P17.1: Witness hangs on a disk that knows, not on what the vote says: it may say what was voted down.
func TestReadWitnessVotedDown(t *testing.T) {
	a := laid(t, 4, 1, saysState(4, "old"), saysState(5, "b"), saysState(5, "a"), saysState(5, "a"))
	for disk := range 4 {
		knows := make([]bool, 4)
		knows[disk] = true
		reads(t, a, knows, 1, something(5, "a", 2, true))
	}
	reads(t, a, []bool{false, false, false, false, true}, 1, something(5, "a", 2, false))
}

// P17.1: no array: ErrArg, at all places and lists.
func TestReadNoArray(t *testing.T) {
	for _, place := range []int{-1, 0, 1, maxSectors, maxNumber + 1, math.MinInt, math.MaxInt} {
		for _, knows := range lists(2) {
			v, err := vote.Read(nil, knows, place)
			if err != api.ErrArg || !same(v, api.Vote{}) {
				t.Fatalf("Read(none, %v, %d) = %v, %d", knows, place, v, err)
			}
		}
	}
}

// P17.1: places: the first, the last, and those that there are not, at which no disk says anything, nor nothing.
func TestReadPlaces(t *testing.T) {
	for _, size := range []int{1, 2, 7, maxSectors} {
		a := fresh(t, 2, size)
		know := []bool{true, true}
		for _, place := range []int{0, size / 2, size - 1} {
			for disk := range 2 {
				lays(t, a, disk, place, framed(place, 5+disk, "a"))
			}
			reads(t, a, know, place, something(6, "a", 1, true))
		}
		for _, place := range []int{-1, size, size + 1, -size, maxNumber, maxNumber + 1, 1 << 32, 1<<32 + size - 1, math.MinInt, math.MaxInt} {
			reads(t, a, know, place, nothing(false))
			mends(t, a, place, 0, api.OK)
		}
	}
}

// P17.1: each place has a vote of its own.
func TestReadEachPlace(t *testing.T) {
	a := fresh(t, 3, 9)
	for place := range 9 {
		writes(t, a, place, 3*place, someBytes(place, place), 3, api.OK)
	}
	for place := range 9 {
		reads(t, a, []bool{true}, place, something(3*place, someBytes(place, place), 3, true))
	}
}

// P17.1: what waits is said as what lasts is, and ahead of what lasts beneath.
func TestReadWaits(t *testing.T) {
	a := fresh(t, 3, 4)
	writes(t, a, 1, 5, "old", 3, api.OK)
	flushes(t, a)
	reads(t, a, nil, 1, something(5, "old", 3, false))
	lays(t, a, 2, 1, framed(1, 4, "new"))
	reads(t, a, nil, 1, something(5, "old", 2, false))
	lays(t, a, 0, 1, framed(1, 4, "new"))
	lays(t, a, 1, 1, framed(1, 4, "new"))
	reads(t, a, nil, 1, something(4, "new", 3, false))
	a.Restart(nil)
	reads(t, a, nil, 1, something(5, "old", 3, false))
}

// P17.1: the power is gone: ErrCrashed, at all places, whatever lies there and whichever disks are dead.
func TestReadCrashed(t *testing.T) {
	for bits := range 8 {
		a := fresh(t, 3, 4)
		writes(t, a, 1, 5, "a", 3, api.OK)
		for _, disk := range chosen(bits, 3) {
			a.Fail(disk)
		}
		a.CrashAfter(0)
		for _, place := range []int{-1, 0, 1, 3, 4, math.MinInt, math.MaxInt} {
			readFails(t, a, nil, place, api.ErrCrashed)
			readFails(t, a, []bool{true, true, true}, place, api.ErrCrashed)
			mends(t, a, place, 0, api.ErrCrashed)
		}
	}
}

// P17.1: a Read brings a crash that is to come no nearer.
func TestReadCountsNoWrites(t *testing.T) {
	a := fresh(t, 3, 4)
	writes(t, a, 1, 5, "a", 3, api.OK)
	a.CrashAfter(1)
	for range 5 {
		reads(t, a, nil, 1, something(5, "a", 3, false))
	}
	lays(t, a, 0, 0, "x")
	readFails(t, a, nil, 1, api.ErrCrashed)
}

// P17.1: as many disks as there may be, and votes among them.
func TestReadManyDisks(t *testing.T) {
	a := fresh(t, maxDisks, 2)
	for disk := range maxDisks {
		lays(t, a, disk, 1, framed(1, 7, string(rune('a'+disk%3))))
	}
	// 11 say a, 11 say b, 10 say c.
	reads(t, a, nil, 1, something(7, "a", 11, false))
	a.Fail(0)
	reads(t, a, nil, 1, something(7, "b", 11, false))
	a.Replace(1)
	reads(t, a, nil, 1, something(7, "a", 10, false))
	know := make([]bool, maxDisks+1)
	know[maxDisks] = true
	reads(t, a, know, 1, something(7, "a", 10, false))
	know[maxDisks-1] = true
	reads(t, a, know, 1, something(7, "a", 10, true))
	writes(t, a, 1, 6, "z", maxDisks-1, api.OK)
	reads(t, a, know, 1, something(6, "z", maxDisks-1, true))
}
