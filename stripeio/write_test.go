package stripeio_test

import (
	"testing"

	"aumbry/api"
)

// P15.2: where each shard lies behind a Write, and with which bytes: stripe by stripe, and nothing else.
func TestWriteLays(t *testing.T) {
	for _, g := range geometries() {
		w := fresh(t, g)
		want := snapshot(w.a)
		for stripe := 0; stripe < g.Stripes; stripe += 1 + g.Stripes/16 {
			epoch, data := 1000003*stripe, someData(g, stripe)
			w.writes(stripe, epoch, data, api.OK)
			for shard, b := range packed(t, g, stripe, epoch, data) {
				want.sides[on(g, stripe, shard)].waits[placeOf(g, stripe)] = b
			}
			holds(t, "behind Write", w.a, want)
		}
	}
}

// P15.2: all stripes of a geometry side by side, each with an epoch of its own.
func TestWriteAllStripes(t *testing.T) {
	w := fresh(t, sturdy)
	for stripe := range sturdy.Stripes {
		w.writes(stripe, stripe*stripe, someData(sturdy, stripe), api.OK)
	}
	w.flushes()
	for stripe := range sturdy.Stripes {
		w.reads(stripe, stripe*stripe, someData(sturdy, stripe))
		w.fixes(stripe, stripe*stripe, 0)
	}
}

// P15.2: a Write over a stripe of another epoch, or of the same: what lasted lasts beneath till it is flushed.
func TestWriteOver(t *testing.T) {
	for _, epoch := range []int{4, 5, 6} {
		w := fresh(t, sturdy)
		old, next := someData(sturdy, 1), someData(sturdy, 2)
		w.writes(3, 5, old, api.OK)
		w.flushes()
		want := snapshot(w.a)
		w.writes(3, epoch, next, api.OK)
		for shard, b := range packed(t, sturdy, 3, epoch, next) {
			want.sides[on(sturdy, 3, shard)].waits[placeOf(sturdy, 3)] = b
		}
		holds(t, "behind a Write over another", w.a, want)
		w.reads(3, epoch, next)
		w.a.Restart(nil)
		w.reads(3, 5, old)
	}
}

// P15.2: a Write while disks are dead, any of them, all of them: OK, and those that are not have their shards.
func TestWriteDead(t *testing.T) {
	const shards = 5
	for bits := range 1 << shards {
		w := fresh(t, sturdy)
		for _, shard := range chosen(bits, shards) {
			w.dies(4, shard)
		}
		want := snapshot(w.a)
		data := someData(sturdy, bits)
		w.writes(4, 9, data, api.OK)
		for shard, b := range packed(t, sturdy, 4, 9, data) {
			if bits>>shard&1 == 0 {
				want.sides[on(sturdy, 4, shard)].waits[placeOf(sturdy, 4)] = b
			}
		}
		holds(t, "behind a Write while disks are dead", w.a, want)
		if len(chosen(bits, shards)) <= sturdy.M {
			w.reads(4, 9, data)
			w.fixes(4, 9, 0)
		} else {
			w.fails(4, 9, api.ErrDamaged)
		}
	}
}

// P15.2: the power goes at each shard, while any disks are dead: ErrCrashed if a shard is left then, on a dead disk too.
func TestWriteCrash(t *testing.T) {
	const shards = 5
	for bits := range 1 << shards {
		for left := range shards + 2 {
			w := fresh(t, sturdy)
			for _, shard := range chosen(bits, shards) {
				w.dies(6, shard)
			}
			w.a.CrashAfter(left)
			want := snapshot(w.a)
			data := someData(sturdy, bits)
			answer, more := api.OK, left
			for shard, b := range packed(t, sturdy, 6, 9, data) {
				if more == 0 {
					answer = api.ErrCrashed
					break
				}
				if bits>>shard&1 == 0 {
					want.sides[on(sturdy, 6, shard)].waits[placeOf(sturdy, 6)] = b
					more--
				}
			}
			want.down = more == 0
			w.writes(6, 9, data, answer)
			holds(t, "behind a Write that the power cut", w.a, want)
		}
	}
}

// P15.2, P15.3: behind a cut Write what lasts is read by epochs: the old one as long as enough of it is there, the new one likewise.
func TestWriteCrashRead(t *testing.T) {
	g := api.Geometry{K: 2, M: 2, Size: 3, Stripes: 3, Slots: 1, Objects: 1}
	old, next := someData(g, 1), someData(g, 2)
	for left := 1; left < 4; left++ {
		for bits := range 1 << left {
			w := fresh(t, g)
			w.writes(2, 7, old, api.OK)
			w.flushes()
			w.a.CrashAfter(left)
			w.writes(2, 8, next, api.ErrCrashed)
			w.fails(2, 7, api.ErrCrashed)
			keep, kept := make([][]int, 4), chosen(bits, left)
			for _, shard := range kept {
				keep[on(g, 2, shard)] = []int{placeOf(g, 2)}
			}
			w.a.Restart(keep)
			if len(kept) <= 2 {
				w.reads(2, 7, old, kept...)
			} else {
				w.fails(2, 7, api.ErrDamaged)
			}
			if len(kept) >= 2 {
				w.reads(2, 8, next, chosen(15&^bits, 4)...)
			} else {
				w.fails(2, 8, api.ErrDamaged)
			}
		}
	}
}

// P15.2: what is written waits: without a flush a crash leaves none of it.
func TestWriteWaits(t *testing.T) {
	w := fresh(t, example)
	w.writes(0, 1, []byte{5, 6}, api.OK)
	w.a.Restart(nil)
	w.fails(0, 1, api.ErrDamaged)
	w.writes(0, 1, []byte{5, 6}, api.OK)
	w.flushes()
	w.a.Restart(nil)
	w.reads(0, 1, []byte{5, 6})
}

// P15.2: an array of fewer disks than the geometry has: the shards of those that there are not are passed over.
func TestWriteFewerDisks(t *testing.T) {
	for disks := 1; disks < 5; disks++ {
		for stripe := range sturdy.Stripes {
			w := sized(t, sturdy, disks, 64)
			want := snapshot(w.a)
			data := someData(sturdy, stripe)
			w.writes(stripe, 9, data, api.OK)
			for shard, b := range packed(t, sturdy, stripe, 9, data) {
				if disk := on(sturdy, stripe, shard); disk < disks {
					want.sides[disk].waits[placeOf(sturdy, stripe)] = b
				}
			}
			holds(t, "behind a Write to fewer disks", w.a, want)
		}
	}
}

// P15.2: an array of more disks: those beyond the geometry's are left alone.
func TestWriteMoreDisks(t *testing.T) {
	w := sized(t, example, 32, 64)
	want := snapshot(w.a)
	for stripe := range example.Stripes {
		w.writes(stripe, 9, []byte{1, 2}, api.OK)
		for shard, b := range packed(t, example, stripe, 9, []byte{1, 2}) {
			want.sides[on(example, stripe, shard)].waits[placeOf(example, stripe)] = b
		}
	}
	holds(t, "behind a Write to more disks", w.a, want)
}

// P15.2: disks of fewer sectors than the geometry asks: a stripe beyond them is not written, and that is passed over.
func TestWriteFewerSectors(t *testing.T) {
	for size := 1; size <= 8; size++ {
		w := sized(t, example, 3, size)
		want := snapshot(w.a)
		for stripe := range example.Stripes {
			w.writes(stripe, 9, []byte{1, 2}, api.OK)
			if placeOf(example, stripe) < size {
				for shard, b := range packed(t, example, stripe, 9, []byte{1, 2}) {
					want.sides[on(example, stripe, shard)].waits[placeOf(example, stripe)] = b
				}
			}
			holds(t, "behind a Write to fewer sectors", w.a, want)
		}
		w.a.CrashAfter(0)
		w.writes(1, 9, []byte{1, 2}, api.ErrCrashed)
	}
}
