package vote_test

import (
	"bytes"
	"math"
	"slices"
	"testing"

	"aumbry/api"
	"aumbry/array"
	"aumbry/vote"
)

// R1: an array that was made by hand has no disks: nothing is said, and nothing is written.
func TestHandMadeArray(t *testing.T) {
	a := &array.Array{}
	for range 2 {
		for _, place := range []int{-1, 0, 1, maxNumber, math.MinInt, math.MaxInt} {
			reads(t, a, nil, place, nothing(false))
			reads(t, a, []bool{true}, place, nothing(false))
			mends(t, a, place, 0, api.OK)
		}
		writes(t, a, 0, 1, "a", 0, api.OK)
		writes(t, a, -1, 1, "a", 0, api.ErrArg)
		// Of no disk it is told that the power is gone.
		a.CrashAfter(0)
	}
}

// R1: at all numbers the calls end, and panic at nothing.
func TestNoPanics(t *testing.T) {
	numbers := []int{0, 1, -1, 2, 3, 4, 32, 4095, 4096, maxNumber, maxNumber + 1, 1 << 32, 1 << 62, math.MinInt, math.MaxInt}
	for _, place := range numbers {
		for _, epoch := range numbers {
			for _, a := range []*array.Array{nil, {}, fresh(t, 2, 4)} {
				for _, knows := range [][]bool{nil, {true}, make([]bool, 100)} {
					vote.Write(a, place, epoch, []byte("a"))
					vote.Write(a, place, epoch, make([]byte, maxData+1))
					vote.Read(a, knows, place)
					vote.Mend(a, knows, place)
				}
			}
		}
	}
}

// R3: calls that answer an error, or write nothing, bring a crash that is to come no nearer.
func TestErrorsCountNoWrites(t *testing.T) {
	a := fresh(t, 2, 4)
	writes(t, a, 1, 5, "a", 2, api.OK)
	a.CrashAfter(1)
	before := snapshot(a)
	for range 5 {
		writes(t, a, -1, 5, "a", 0, api.ErrArg)
		writes(t, a, 1, -1, "a", 0, api.ErrArg)
		writes(t, a, 1, 5, someBytes(maxData+1, 1), 0, api.ErrArg)
		writes(t, a, 4, 5, "a", 0, api.OK)
		mends(t, a, 1, 0, api.OK)
		mends(t, a, 2, 0, api.OK)
		mends(t, a, 4, 0, api.OK)
	}
	holds(t, "behind calls that write nothing", a, before)
	lays(t, a, 0, 2, "x")
	if !a.Down() {
		t.Fatal("the power is there")
	}
}

// spoil writes over all that a list holds, spare room too.
func spoil[E any](list []E, with E) {
	room := list[:cap(list)]
	for i := range room {
		room[i] = with
	}
}

// R4: data is left as it was, spare room too, and what is changed in it later changes no disk.
func TestWriteMemory(t *testing.T) {
	for _, length := range []int{0, 1, 7, 100, maxData} {
		data := someBytes(length, length)
		whole := slices.Concat([]byte("<<"), []byte(data), bytes.Repeat([]byte(">"), 3*(length+40)))
		before := slices.Clone(whole)
		a := fresh(t, 3, 4)
		n, err := vote.Write(a, 1, 5, whole[2:2+length])
		if n != 3 || err != api.OK {
			t.Fatalf("%d, %d", n, err)
		}
		if !bytes.Equal(whole, before) {
			t.Fatalf("what Write was given is %.60v now", whole)
		}
		laid := snapshot(a)
		spoil(whole, 0x33)
		holds(t, "behind a change of what was written", a, laid)
		for at := range length {
			a.Corrupt(at%3, 1, 8+at, 0xFF)
		}
		if slices.ContainsFunc(whole, func(b byte) bool { return b != 0x33 }) {
			t.Fatal("a disk shares memory with what was written")
		}
	}
}

// R4: no two disks share what was written, or mended.
func TestDisksMemory(t *testing.T) {
	for _, mended := range []bool{false, true} {
		a := fresh(t, 3, 4)
		writes(t, a, 1, 5, "a", 3, api.OK)
		if mended {
			a.Replace(0)
			a.Replace(2)
			mends(t, a, 1, 2, api.OK)
		}
		for disk := range 3 {
			want := snapshot(a)
			b := []byte(want.sides[disk].waits[1])
			b[8] ^= 0x01
			want.sides[disk].waits[1] = string(b)
			a.Corrupt(disk, 1, 8, 0x01)
			holds(t, "behind a changed byte", a, want)
		}
	}
}

// R4: the list of disks that know is left as it was, spare room too, and not kept.
func TestKnowsMemory(t *testing.T) {
	for _, with := range []bool{false, true} {
		for length := range 6 {
			whole := make([]bool, 12)
			spoil(whole, with)
			for i := range length {
				whole[2+i] = i%2 == 0
			}
			before := slices.Clone(whole)
			knows := whole[2 : 2+length]
			a := laid(t, 3, 1, saysState(5, "a"), blanks()[0], saysState(4, "b"))
			// What lies behind the list in its spare room says nothing.
			reads(t, a, knows, 1, something(5, "a", 1, length > 0))
			if n, err := vote.Mend(a, knows, 1); n != 2 || err != api.OK {
				t.Fatalf("%d, %d", n, err)
			}
			if !slices.Equal(whole, before) {
				t.Fatalf("the list is %v now", whole)
			}
			spoil(whole, true)
			reads(t, a, nil, 1, something(5, "a", 3, false))
		}
	}
}

// R4: what Read answers lies in memory of its own, spare room too.
func TestReadMemory(t *testing.T) {
	for _, length := range []int{0, 1, 7, 32, 33, 100, maxData} {
		a := fresh(t, 3, 4)
		data := someBytes(length, length)
		writes(t, a, 1, 5, data, 3, api.OK)
		a.Replace(1)
		before := snapshot(a)
		first, _ := vote.Read(a, nil, 1)
		second, _ := vote.Read(a, nil, 1)
		spoil(first.Data, 0x33)
		if !same(second, something(5, data, 2, false)) {
			t.Fatalf("two answers share memory: %.60v", second)
		}
		holds(t, "behind a change of what was read", a, before)
		// Nor does what is done later change an answer.
		mends(t, a, 1, 1, api.OK)
		for disk := range 3 {
			for at := range length + 12 {
				a.Corrupt(disk, 1, at, 0xFF)
			}
		}
		if !same(second, something(5, data, 2, false)) {
			t.Fatalf("an answer has changed: %.60v", second)
		}
	}
}

// R5: the vote hangs on no order in which a map is gone through: asked again and again it is the same.
func TestSameAgain(t *testing.T) {
	a := fresh(t, 12, 2)
	for disk := range 12 {
		lays(t, a, disk, 1, framed(1, 5+disk/4%2, string(rune('z'-disk))))
	}
	// The disks 4 to 7 say the epoch 6, and v, u, t, s.
	for range 200 {
		reads(t, a, nil, 1, something(6, "s", 1, false))
	}
	lays(t, a, 0, 1, framed(1, 6, "u"))
	lays(t, a, 1, 1, framed(1, 6, "v"))
	for range 200 {
		reads(t, a, nil, 1, something(6, "u", 2, false))
	}
}

// R5: nothing is kept between calls, nor between two arrays.
func TestTwoArrays(t *testing.T) {
	one, other := fresh(t, 3, 4), fresh(t, 2, 4)
	writes(t, one, 1, 9, "one", 3, api.OK)
	before := snapshot(one)
	writes(t, other, 1, 5, "other", 2, api.OK)
	other.Replace(0)
	mends(t, other, 1, 1, api.OK)
	other.CrashAfter(0)
	readFails(t, other, nil, 1, api.ErrCrashed)
	holds(t, "behind calls with another array", one, before)
	reads(t, one, nil, 1, something(9, "one", 3, false))
	other.Restart(nil)
	reads(t, other, nil, 1, nothing(false))
}

// drawer draws numbers below n, which hang on a seed alone.
func drawer(seed int) func(n int) int {
	x := uint32(seed)*2654435761 + 99
	return func(n int) int {
		x ^= x << 13
		x ^= x >> 17
		x ^= x << 5
		return int(x>>3) % n
	}
}

// disturb does something to disks that no call of vote does; how many writes are left ahead of a crash.
func disturb(a *array.Array, draw func(int) int, size, left int) int {
	disks := len(a.Live())
	disk, place := draw(disks), draw(size)
	switch draw(8) {
	case 0:
		if draw(3) == 0 {
			a.Fail(disk)
		}
	case 1:
		a.Replace(disk)
	case 2, 3:
		a.Corrupt(disk, place, draw(20), byte(draw(256)))
	case 4:
		a.Flush()
	case 5:
		if !a.Down() {
			left = draw(12) - 3
			a.CrashAfter(left)
		}
	default:
		if draw(2) == 0 || a.Down() {
			keep := make([][]int, draw(disks+2))
			for i := range keep {
				for range draw(size + 1) {
					keep[i] = append(keep[i], draw(size))
				}
			}
			a.Restart(keep)
			left = -1
		}
	}
	return left
}

// P17.1 to P17.4: long runs of calls on disks that fail, lose bytes and their power, held against the chapter's words at each.
func TestRunsOfCalls(t *testing.T) {
	for seed := range 150 {
		draw := drawer(seed)
		disks, size := 1+seed%6, 1+seed%3
		a := fresh(t, disks, size)
		left := -1
		for range 200 {
			left = disturb(a, draw, size, left)
			m := modelOf(a, size, left)
			knows := make([]bool, draw(disks+3))
			for i := range knows {
				knows[i] = draw(2) == 0
			}
			place := draw(size+2) - 1
			switch draw(4) {
			case 0, 1:
				if place >= 0 {
					asWrites(t, a, m, place, draw(4), someBytes(draw(3), draw(3)))
				}
			case 2:
				asMends(t, a, m, knows, place)
			}
			left = m.left
			asReads(t, a, m, knows, place)
		}
	}
}
