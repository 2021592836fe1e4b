package stripeio_test

import (
	"testing"

	"aumbry/api"
	"aumbry/stripeio"
)

// P15.4, P15.5: what Fix writes, for each reason for which shards are not there, any of them, and how many it tells; behind it none is bad.
func TestFix(t *testing.T) {
	const shards = 5
	data := someData(sturdy, 1)
	for _, l := range losses() {
		for bits := range 1 << shards {
			gone := chosen(bits, shards)
			if len(gone) > sturdy.M {
				continue
			}
			w := fresh(t, sturdy)
			w.writes(4, 9, data, api.OK)
			w.flushes()
			for _, shard := range gone {
				l.lose(w, 4, 9, shard)
			}
			w.flushes()
			want := snapshot(w.a)
			right := packed(t, sturdy, 4, 9, data)
			for _, shard := range gone {
				want.sides[on(sturdy, 4, shard)].waits[placeOf(sturdy, 4)] = right[shard]
			}
			w.fixes(4, 9, len(gone))
			holds(t, "behind Fix: "+l.name, w.a, want)
			w.reads(4, 9, data)
			w.fixes(4, 9, 0)
			holds(t, "behind a second Fix: "+l.name, w.a, want)
		}
	}
}

// P15.4: shards that are wrong though their check sums are right are written anew, those that are right are left.
func TestFixWrong(t *testing.T) {
	g := api.Geometry{K: 2, M: 4, Size: 3, Stripes: 3, Slots: 1, Objects: 1}
	const shards = 6
	data := someData(g, 1)
	for wrong := range 1 << shards {
		for gone := range 1 << shards {
			if wrong&gone != 0 || 2*len(chosen(wrong, shards))+len(chosen(gone, shards)) > g.M {
				continue
			}
			w := fresh(t, g)
			w.writes(2, 9, data, api.OK)
			for _, shard := range chosen(wrong, shards) {
				w.forges(2, 9, shard, shard%3)
			}
			for _, shard := range chosen(gone, shards) {
				w.renews(2, shard)
			}
			w.flushes()
			want := snapshot(w.a)
			right := packed(t, g, 2, 9, data)
			for _, shard := range chosen(wrong|gone, shards) {
				want.sides[on(g, 2, shard)].waits[placeOf(g, 2)] = right[shard]
			}
			w.fixes(2, 9, len(chosen(wrong|gone, shards)))
			holds(t, "behind Fix of wrong shards", w.a, want)
			w.reads(2, 9, data)
		}
	}
}

// P15.4: shards on dead disks are neither written nor told.
func TestFixDead(t *testing.T) {
	const shards = 5
	data := someData(sturdy, 1)
	for dead := range 1 << shards {
		for fresher := range 1 << shards {
			if dead&fresher != 0 || len(chosen(dead|fresher, shards)) > sturdy.M {
				continue
			}
			w := fresh(t, sturdy)
			w.writes(6, 9, data, api.OK)
			for _, shard := range chosen(dead, shards) {
				w.dies(6, shard)
			}
			for _, shard := range chosen(fresher, shards) {
				w.renews(6, shard)
			}
			want := snapshot(w.a)
			for _, shard := range chosen(fresher, shards) {
				want.sides[on(sturdy, 6, shard)].waits[placeOf(sturdy, 6)] = packed(t, sturdy, 6, 9, data)[shard]
			}
			w.fixes(6, 9, len(chosen(fresher, shards)))
			holds(t, "behind Fix while disks are dead", w.a, want)
			w.reads(6, 9, data)
		}
	}
}

// P15.4: the power goes in the midst of a Fix, at each shard: ErrCrashed and 0, if one is left; those ahead are written.
func TestFixCrash(t *testing.T) {
	const shards = 5
	data := someData(sturdy, 1)
	for bits := range 1 << shards {
		gone := chosen(bits, shards)
		if len(gone) > sturdy.M {
			continue
		}
		for left := 1; left <= len(gone)+1; left++ {
			w := fresh(t, sturdy)
			w.writes(3, 9, data, api.OK)
			w.flushes()
			for _, shard := range gone {
				w.renews(3, shard)
			}
			want := snapshot(w.a)
			w.a.CrashAfter(left)
			done := gone[:min(left, len(gone))]
			for _, shard := range done {
				want.sides[on(sturdy, 3, shard)].waits[placeOf(sturdy, 3)] = packed(t, sturdy, 3, 9, data)[shard]
			}
			want.down = left <= len(gone)
			answer, count := api.OK, len(gone)
			if left < len(gone) {
				answer, count = api.ErrCrashed, 0
			}
			if n, err := stripeio.Fix(w.a, w.f, w.g, 3, 9); n != count || err != answer {
				t.Fatalf("Fix = %d, %d, want %d, %d", n, err, count, answer)
			}
			holds(t, "behind a Fix that the power cut", w.a, want)
			w.a.Restart(nil)
			w.reads(3, 9, data, gone...)
			w.fixes(3, 9, len(gone))
			w.reads(3, 9, data)
		}
	}
}

// P15.4: what lasts of a Fix that was cut is good, and the rest is written by the next one.
func TestFixCrashKept(t *testing.T) {
	data := someData(sturdy, 1)
	for bits := range 4 {
		w := fresh(t, sturdy)
		w.writes(0, 9, data, api.OK)
		w.flushes()
		for shard := range 3 {
			w.renews(0, shard)
		}
		w.a.CrashAfter(2)
		w.failsFix(0, 9, api.ErrCrashed)
		w.fails(0, 9, api.ErrCrashed)
		keep := make([][]int, 5)
		for _, shard := range chosen(bits, 2) {
			keep[shard] = []int{placeOf(sturdy, 0)}
		}
		w.a.Restart(keep)
		w.reads(0, 9, data, chosen(7&^bits, 3)...)
		w.fixes(0, 9, 3-len(chosen(bits, 2)))
		w.reads(0, 9, data)
	}
}

// failsFix asks Fix alone for an error.
func (w world) failsFix(stripe, epoch int, want api.Errno) {
	w.t.Helper()
	if n, err := stripeio.Fix(w.a, w.f, w.g, stripe, epoch); n != 0 || err != want {
		w.t.Fatalf("Fix(%d, %d) = %d, %d, want %d", stripe, epoch, n, err, want)
	}
}

// P15.4: Fix waits as Write does: without a flush a crash leaves none of it.
func TestFixWaits(t *testing.T) {
	w := fresh(t, example)
	w.writes(1, 9, []byte{1, 2}, api.OK)
	w.flushes()
	w.renews(1, 0)
	w.fixes(1, 9, 1)
	w.a.Restart(nil)
	w.reads(1, 9, []byte{1, 2}, 0)
	w.fixes(1, 9, 1)
	w.flushes()
	w.a.Restart(nil)
	w.reads(1, 9, []byte{1, 2})
}

// P15.4: Fix of one stripe leaves the others, and what lies at other places.
func TestFixOneStripe(t *testing.T) {
	w := fresh(t, sturdy)
	for stripe := range sturdy.Stripes {
		w.writes(stripe, stripe, someData(sturdy, stripe), api.OK)
	}
	w.flushes()
	w.a.Replace(1)
	w.a.Write(1, 0, []byte("a label"))
	for stripe := range sturdy.Stripes {
		want := snapshot(w.a)
		shard := (1 + 10 - stripe) % 5
		want.sides[1].waits[placeOf(sturdy, stripe)] = packed(t, sturdy, stripe, stripe, someData(sturdy, stripe))[shard]
		w.reads(stripe, stripe, someData(sturdy, stripe), shard)
		w.fixes(stripe, stripe, 1)
		holds(t, "behind Fix of one stripe", w.a, want)
	}
}

// P15.5: disk by disk all are replaced, and the stripe is fixed behind each: it is read to the end.
func TestFixAgainAndAgain(t *testing.T) {
	for _, g := range geometries() {
		if g.M == 0 {
			continue
		}
		w := fresh(t, g)
		stripe, data := g.Stripes-1, someData(g, 3)
		w.writes(stripe, 9, data, api.OK)
		shards := g.K + g.M
		for first := 0; first < shards; first += g.M {
			var gone []int
			for shard := first; shard < min(first+g.M, shards); shard++ {
				w.renews(stripe, shard)
				gone = append(gone, shard)
			}
			w.reads(stripe, 9, data, gone...)
			w.fixes(stripe, 9, len(gone))
			w.reads(stripe, 9, data)
		}
		for shard := range g.M {
			w.dies(stripe, shard)
		}
		w.reads(stripe, 9, data)
		w.fixes(stripe, 9, 0)
		w.dies(stripe, g.M)
		w.fails(stripe, 9, api.ErrDamaged)
	}
}

// P15.5: sectors of the greatest size and stripes over the most disks are put right, too.
func TestFixGreat(t *testing.T) {
	for _, g := range []api.Geometry{longest, widest, {K: 16, M: 16, Size: 64, Stripes: 2, Slots: 1, Objects: 1}} {
		w := fresh(t, g)
		data := someData(g, 1)
		w.writes(1, maxNumber, data, api.OK)
		var bad []int
		for shard := range g.M / 2 {
			w.forges(1, maxNumber, 2*shard, g.Size-1)
			bad = append(bad, 2*shard)
		}
		w.reads(1, maxNumber, data, bad...)
		w.fixes(1, maxNumber, len(bad))
		w.reads(1, maxNumber, data)
	}
}
