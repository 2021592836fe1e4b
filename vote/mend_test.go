package vote_test

import (
	"math"
	"testing"

	"aumbry/api"
	"aumbry/vote"
)

// mixed are states of all kinds: same and other data, lesser and greater epochs, nothing, dead, spoilt.
func mixed() []state {
	return []state{
		saysState(5, "b"),
		saysState(5, ""),
		saysState(5, "bc"),
		saysState(4, "b"),
		saysState(0, ""),
		saysState(6, "a"),
		blanks()[0],
		blanks()[2],
		dead(),
		spoilt()[0],
		spoilt()[3],
	}
}

// P17.1 to P17.3, P17.4: each of up to four disks in each of some states: what is voted, what Mend answers and leaves, and that a second one writes nothing.
func TestAllStates(t *testing.T) {
	states := mixed()
	for disks := 1; disks <= 4; disks++ {
		choices := 1
		for range disks {
			choices *= len(states)
		}
		for choice := range choices {
			var chosen []state
			for left := choice; len(chosen) < disks; left /= len(states) {
				chosen = append(chosen, states[left%len(states)])
			}
			a := laid(t, 3, 1, chosen...)
			if choice%2 == 1 {
				flushes(t, a)
			}
			m := modelOf(a, 3, -1)
			asReads(t, a, m, nil, 1)
			asReads(t, a, m, []bool{choice%3 == 0, choice%5 == 0, choice%7 == 0, true}, 1)
			asMends(t, a, m, nil, 1)
			mends(t, a, 1, 0, api.OK)
			holds(t, "behind a second Mend", a, m.shot)
			if v, err := m.votes(nil, 1); err == api.OK && v.Has {
				agree(t, m, v)
			}
			asReads(t, a, m, nil, 1)
		}
	}
}

// agree asks that all disks that are not dead say just what the vote says.
func agree(t *testing.T, m *model, v api.Vote) {
	t.Helper()
	live := 0
	for _, s := range m.sides {
		if s.live {
			live++
		}
	}
	if v.Copies != live {
		t.Fatalf("%d of %d disks say it: %v", v.Copies, live, m.shot)
	}
}

// P17.3: the power goes at each write of a Mend, of three disks in each of some states: ErrCrashed and 0 if one was left to write, and what was written ahead of it is there.
func TestMendCrash(t *testing.T) {
	states := mixed()
	n := len(states)
	for choice := range n * n * n {
		for left := range 4 {
			a := laid(t, 3, 1, states[choice%n], states[choice/n%n], states[choice/n/n])
			a.CrashAfter(left)
			m := modelOf(a, 3, left)
			asMends(t, a, m, nil, 1)
			a.Restart([][]int{{1}, {1}, {1}})
			m = modelOf(a, 3, -1)
			asMends(t, a, m, nil, 1)
			mends(t, a, 1, 0, api.OK)
		}
	}
}

// P17.3: in plain numbers: a Mend that is cut at its last write is done, one that is cut ahead of it tells so.
func TestMendCrashPlain(t *testing.T) {
	for left := range 4 {
		a := fresh(t, 5, 4)
		writes(t, a, 2, 5, "a", 5, api.OK)
		flushes(t, a)
		a.Replace(0)
		lays(t, a, 2, 2, framed(2, 4, "z"))
		a.Replace(3)
		a.Fail(4)
		a.CrashAfter(left)
		want := snapshot(a)
		for i, disk := range []int{0, 2, 3} {
			if i < left {
				want.sides[disk].waits[2] = framed(2, 5, "a")
			}
		}
		want.down = true
		if left < 3 {
			mends(t, a, 2, 0, api.ErrCrashed)
		} else {
			// Behind the last write no disk is left to ask: the dead one is not written.
			mends(t, a, 2, 3, api.OK)
		}
		holds(t, "behind a Mend that the power cut", a, want)
	}
}

// P17.3: nothing is said: 0, and nothing is written, whatever else lies there.
func TestMendNothing(t *testing.T) {
	all := append(spoilt(), dead())
	all = append(all, blanks()...)
	for _, one := range all {
		for _, other := range all {
			a := laid(t, 3, 1, one, other, one)
			a.CrashAfter(1)
			before := snapshot(a)
			mends(t, a, 1, 0, api.OK)
			holds(t, "behind a Mend of nothing", a, before)
		}
	}
}

// P17.3: all say it: 0, and nothing is written; even an epoch of 0 and no data.
func TestMendAllSay(t *testing.T) {
	for _, s := range []state{saysState(5, "a"), saysState(0, ""), saysState(maxNumber, someBytes(maxData, 1))} {
		for disks := 1; disks <= 5; disks++ {
			for bits := range 1<<disks - 1 {
				a := fresh(t, disks, 3)
				for disk := range disks {
					s.lay(t, a, disk, 1)
				}
				flushes(t, a)
				for _, disk := range chosen(bits, disks) {
					a.Fail(disk)
				}
				a.CrashAfter(1)
				before := snapshot(a)
				mends(t, a, 1, 0, api.OK)
				holds(t, "behind a Mend of what all say", a, before)
			}
		}
	}
}

// mendsSome lets some of five disks be in another state than the rest, which say an epoch and data: just these are written.
func mendsSome(t *testing.T, epoch int, data string, other state, most int) {
	t.Helper()
	const disks = 5
	for bits := range 1 << disks {
		some := chosen(bits, disks)
		if len(some) > most {
			continue
		}
		a := fresh(t, disks, 3)
		for disk := range disks {
			lays(t, a, disk, 1, framed(1, epoch, data))
		}
		for _, disk := range some {
			a.Replace(disk)
			other.lay(t, a, disk, 1)
		}
		flushes(t, a)
		want := snapshot(a)
		for _, disk := range some {
			want.sides[disk].waits[1] = framed(1, epoch, data)
		}
		mends(t, a, 1, len(some), api.OK)
		holds(t, "behind Mend", a, want)
		reads(t, a, nil, 1, something(epoch, data, disks, false))
		mends(t, a, 1, 0, api.OK)
		holds(t, "behind a second Mend", a, want)
	}
}

// P17.3: some disks do not say it, for each reason; each of these is written, and no other.
func TestMendSome(t *testing.T) {
	long := someBytes(maxData, 3)
	for _, data := range []string{"b", "", long} {
		for _, epoch := range []int{5, maxNumber} {
			for _, other := range append(spoilt(), blanks()...) {
				mendsSome(t, epoch, data, other, 4)
			}
			mendsSome(t, epoch, data, saysState(epoch-1, data), 4)
			mendsSome(t, epoch, data, saysState(epoch-1, "a"), 4)
			mendsSome(t, epoch, data, saysState(0, ""), 4)
			mendsSome(t, epoch, data, saysState(epoch, data[:len(data)/2]+"a"), 2)
			mendsSome(t, epoch, data, saysState(epoch, "a"), 2)
		}
	}
	// An epoch of 0, and no data, is something too.
	for _, other := range append(spoilt(), blanks()...) {
		mendsSome(t, 0, "", other, 4)
	}
	mendsSome(t, 0, "", saysState(0, "a"), 2)
	mendsSome(t, 0, "a", saysState(0, ""), 2)
}

// P17.3: who knows is nothing to Mend: with each list it writes the same.
func TestMendKnows(t *testing.T) {
	for _, knows := range lists(3) {
		a := laid(t, 3, 1, saysState(5, "b"), blanks()[0], saysState(4, "a"))
		m := modelOf(a, 3, -1)
		asMends(t, a, m, knows, 1)
		reads(t, a, nil, 1, something(5, "b", 3, false))
	}
}

// P17.3: no array: ErrArg, at all places and lists.
func TestMendNoArray(t *testing.T) {
	for _, place := range []int{-1, 0, 1, maxSectors, maxNumber + 1, math.MinInt, math.MaxInt} {
		for _, knows := range lists(2) {
			if n, err := vote.Mend(nil, knows, place); n != 0 || err != api.ErrArg {
				t.Fatalf("Mend(none, %v, %d) = %d, %d", knows, place, n, err)
			}
		}
	}
}

// P17.3: the least of what as many disks say is written over the others, and a lone greater epoch over all.
func TestMendVotes(t *testing.T) {
	a := laid(t, 3, 1, saysState(5, "b"), saysState(5, "a"), dead(), saysState(5, "ab"), saysState(4, "c"), saysState(4, "c"))
	mends(t, a, 1, 4, api.OK)
	reads(t, a, nil, 1, something(5, "a", 5, false))
	lays(t, a, 0, 1, framed(1, 6, "z"))
	mends(t, a, 1, 4, api.OK)
	reads(t, a, nil, 1, something(6, "z", 5, false))
	a.Replace(2)
	mends(t, a, 1, 1, api.OK)
	reads(t, a, nil, 1, something(6, "z", 6, false))
}

// P17.3: one of as many disks as there may be says it.
func TestMendManyDisks(t *testing.T) {
	for _, source := range []int{0, 7, maxDisks - 1} {
		a := fresh(t, maxDisks, 2)
		lays(t, a, source, 1, framed(1, 3, "a"))
		mends(t, a, 1, maxDisks-1, api.OK)
		reads(t, a, nil, 1, something(3, "a", maxDisks, false))
	}
}

// P17.3: places that no disk has: 0.
func TestMendPlaces(t *testing.T) {
	a := fresh(t, 3, 4)
	for place := range 4 {
		writes(t, a, place, 5, "a", 3, api.OK)
	}
	a.Replace(1)
	for _, place := range []int{-1, 4, 5, maxNumber, maxNumber + 1, 1 << 32, 1<<32 + 1, math.MinInt, math.MaxInt} {
		before := snapshot(a)
		mends(t, a, place, 0, api.OK)
		holds(t, "behind a Mend beyond the disks", a, before)
	}
	for _, place := range []int{0, 3} {
		want := snapshot(a)
		want.sides[1].waits[place] = framed(place, 5, "a")
		mends(t, a, place, 1, api.OK)
		holds(t, "behind Mend", a, want)
	}
}
