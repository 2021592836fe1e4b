package commit_test

import (
	"math/rand"
	"testing"

	"aumbry/api"
)

// longRun tells a store so many things at random.
type longRun struct {
	*both
	r       *rand.Rand
	most    int  // how many disks may be hurt
	formats bool // the disks may be formatted anew
}

// next is the next thing that is told.
func (l *longRun) next() {
	key := keyOf(l.r.Intn(l.g.Objects + 1))
	switch n := l.r.Intn(100); {
	case n < 40:
		l.put(key, text(l.length(), l.r.Intn(1000)))
	case n < 55:
		l.remove(key)
	case n < 75:
		l.asksSome(key)
	case n < 82:
		l.crashAfter(l.r.Intn(3 * (l.g.K + l.g.M)))
	case n < 92:
		l.powerAndRecover()
	case n < 97:
		l.hurtOne()
	default:
		l.formatAnew()
	}
}

// length is that of an object's bytes: short ones more often.
func (l *longRun) length() int {
	all := partOf(l.g) * l.g.Stripes
	return l.r.Intn(1 + l.r.Intn(1+l.r.Intn(all+2)))
}

// asksSome asks for an object, and lists all.
func (l *longRun) asksSome(key string) {
	if l.s == nil {
		return
	}
	d, err := l.get(key)
	l.stat(key)
	l.list()
	if want, is := l.want[key]; err == api.OK && l.cut == nil && !l.formats && (!is || d != want) {
		l.t.Fatalf("Get(%q) = %.80q, want %.80q", key, d, want)
	}
}

// powerAndRecover lets the power come, if it went, or not, and recovers the store.
func (l *longRun) powerAndRecover() {
	keep := make([][]int, l.r.Intn(l.g.K+l.g.M+2))
	for disk := range keep {
		for place := range sizeOf(l.g) {
			if l.r.Intn(2) == 0 {
				keep[disk] = append(keep[disk], place)
			}
		}
	}
	if l.r.Intn(6) > 0 {
		l.restart(keep)
	}
	err := l.recover()
	if l.formats {
		return
	}
	if err == api.OK {
		l.keepsWord()
	} else if err != api.ErrCrashed && len(l.hurt) <= l.g.M {
		l.t.Fatalf("Recover = %d, though the disks that were hurt are %v", err, l.hurt)
	}
}

// hurtOne hurts a disk, if one more may be.
func (l *longRun) hurtOne() {
	disk := l.r.Intn(l.g.K + l.g.M)
	if !l.hurt[disk] && len(l.hurt) >= l.most {
		return
	}
	switch l.r.Intn(4) {
	case 0:
		l.fail(disk)
	case 1:
		l.replace(disk)
	default:
		l.corrupt(disk, l.r.Intn(sizeOf(l.g)), l.r.Intn(100), byte(1+l.r.Intn(255)))
	}
}

// formatAnew formats the disks, the power being there.
func (l *longRun) formatAnew() {
	if l.formats {
		l.restart(nil)
		l.format()
	}
}

// longGeometries are those of the long runs.
func longGeometries() []api.Geometry {
	return []api.Geometry{
		example,
		{K: 1, Size: 1, Stripes: 3, Slots: 1, Objects: 2},
		{K: 1, M: 2, Size: 3, Stripes: 6, Slots: 1, Objects: 3},
		{K: 3, M: 2, Size: 2, Stripes: 9, Slots: 3, Objects: 4},
		{K: 2, M: 4, Size: 1, Stripes: 12, Slots: 5, Objects: 6},
	}
}

// W1 to W5, P20.1 to P20.6: long runs in which no more disks are hurt than there are parity shards: nothing is ever lost, and all is as the words say.
func TestLongRuns(t *testing.T) {
	for i, g := range longGeometries() {
		for seed := range 12 {
			l := &longRun{both: made(t, g), r: rand.New(rand.NewSource(int64(100*i + seed))), most: g.M}
			for range 200 {
				l.next()
			}
			l.restart(nil)
			l.recovers(api.OK)
			l.keepsWord()
			l.fillsUp()
		}
	}
}

// W4, P20.1 to P20.6: long runs in which any disks are hurt: each answer is right, or tells that too much is lost.
func TestLongRunsOfHurtDisks(t *testing.T) {
	for i, g := range longGeometries() {
		for seed := range 12 {
			l := &longRun{both: made(t, g), r: rand.New(rand.NewSource(int64(7000 + 100*i + seed))), most: g.K + g.M}
			for range 200 {
				l.next()
			}
		}
	}
}

// P20.1 to P20.5: long runs in which disks are formatted anew, too: all is as the words say.
func TestLongRunsOfFormats(t *testing.T) {
	for i, g := range longGeometries() {
		for seed := range 8 {
			l := &longRun{both: made(t, g), r: rand.New(rand.NewSource(int64(9000 + 100*i + seed))), most: g.K + g.M, formats: true}
			for range 200 {
				l.next()
			}
		}
	}
}
