package stripeio_test

import (
	"slices"
	"testing"

	"aumbry/api"
)

// loss is a way in which a shard is not there any more.
type loss struct {
	name string
	lose func(w world, stripe, epoch, shard int)
}

// losses are those after which a shard's disk is not dead: the shard is bad.
func losses() []loss {
	relaid := func(name string, lay func(w world, place, epoch int, data []byte) []byte) loss {
		return loss{name, func(w world, stripe, epoch, shard int) {
			b := w.lies(stripe, shard)
			w.lays(stripe, shard, lay(w, placeOf(w.g, stripe), epoch, b[8:len(b)-4]))
		}}
	}
	return []loss{
		{"replaced", func(w world, stripe, _, shard int) { w.renews(stripe, shard) }},
		relaid("an epoch less", func(_ world, place, epoch int, data []byte) []byte { return framed(place, epoch-1, data) }),
		relaid("an epoch more", func(_ world, place, epoch int, data []byte) []byte { return framed(place, epoch+1, data) }),
		relaid("epoch 0", func(_ world, place, _ int, data []byte) []byte { return framed(place, 0, data) }),
		relaid("an epoch with a bit above MaxNumber", func(_ world, place, epoch int, data []byte) []byte { return framed(place, epoch+1<<31, data) }),
		relaid("another place", func(_ world, place, epoch int, data []byte) []byte { return framed(place+1, epoch, data) }),
		relaid("the place 0", func(_ world, _, epoch int, data []byte) []byte { return framed(0, epoch, data) }),
		relaid("a byte shorter", func(_ world, place, epoch int, data []byte) []byte { return framed(place, epoch, data[1:]) }),
		relaid("a byte longer", func(_ world, place, epoch int, data []byte) []byte {
			return framed(place, epoch, append(slices.Clone(data), 0))
		}),
		relaid("no data", func(_ world, place, epoch int, _ []byte) []byte { return framed(place, epoch, nil) }),
		relaid("no frame", func(_ world, _, _ int, data []byte) []byte { return slices.Clone(data) }),
		relaid("one byte", func(world, int, int, []byte) []byte { return []byte{0} }),
		relaid("cut off", func(_ world, place, epoch int, data []byte) []byte {
			b := framed(place, epoch, data)
			return b[:len(b)-1]
		}),
		relaid("noughts", func(_ world, _, _ int, data []byte) []byte { return make([]byte, len(data)+frame) }),
	}
}

// P15.3: shards that are not there, for each reason, any of them: as many as there are parity shards may be, one more not.
func TestReadMissing(t *testing.T) {
	const shards = 5
	data := someData(sturdy, 1)
	for _, l := range losses() {
		t.Run(l.name, func(t *testing.T) {
			for bits := range 1 << shards {
				w := fresh(t, sturdy)
				w.writes(4, 9, data, api.OK)
				gone := chosen(bits, shards)
				for _, shard := range gone {
					l.lose(w, 4, 9, shard)
				}
				if len(gone) <= sturdy.M {
					w.reads(4, 9, data, gone...)
				} else {
					w.fails(4, 9, api.ErrDamaged)
				}
			}
		})
	}
}

// P15.3: shards that are not there, each for another reason.
func TestReadMissingMixed(t *testing.T) {
	all := losses()
	data := someData(sturdy, 1)
	for i := range all {
		w := fresh(t, sturdy)
		w.writes(2, 9, data, api.OK)
		for n, shard := range []int{0, 3, 4} {
			all[(i+n)%len(all)].lose(w, 2, 9, shard)
		}
		w.reads(2, 9, data, 0, 3, 4)
		all[(i+5)%len(all)].lose(w, 2, 9, 1)
		w.fails(2, 9, api.ErrDamaged)
	}
}

// P15.3: a byte changed anywhere in a sector: the shard is not there.
func TestReadChangedByte(t *testing.T) {
	for _, g := range []api.Geometry{example, sturdy} {
		for shard := range g.K + g.M {
			for at := range g.Size + frame {
				for _, by := range []byte{1, 128, 255} {
					w := fresh(t, g)
					data := someData(g, at)
					w.writes(1, 9, data, api.OK)
					w.a.Corrupt(on(g, 1, shard), placeOf(g, 1), at, by)
					w.reads(1, 9, data, shard)
					w.flushes()
					w.reads(1, 9, data, shard)
				}
			}
		}
	}
}

// P15.3: dead disks, any of them: their shards are missing, and not bad.
func TestReadDead(t *testing.T) {
	const shards = 5
	data := someData(sturdy, 1)
	for bits := range 1 << shards {
		w := fresh(t, sturdy)
		w.writes(4, 9, data, api.OK)
		for _, shard := range chosen(bits, shards) {
			w.dies(4, shard)
		}
		if len(chosen(bits, shards)) <= sturdy.M {
			w.reads(4, 9, data)
		} else {
			w.fails(4, 9, api.ErrDamaged)
		}
	}
}

// P15.3: dead disks and new ones together: those of the new ones alone are bad.
func TestReadDeadAndNew(t *testing.T) {
	const shards = 5
	data := someData(sturdy, 1)
	for dead := range 1 << shards {
		for fresher := range 1 << shards {
			if dead&fresher != 0 {
				continue
			}
			w := fresh(t, sturdy)
			w.writes(5, 9, data, api.OK)
			for _, shard := range chosen(dead, shards) {
				w.dies(5, shard)
			}
			for _, shard := range chosen(fresher, shards) {
				w.renews(5, shard)
			}
			if len(chosen(dead|fresher, shards)) <= sturdy.M {
				w.reads(5, 9, data, chosen(fresher, shards)...)
			} else {
				w.fails(5, 9, api.ErrDamaged)
			}
		}
	}
}

// P15.3: shards that are wrong though their check sums are right, beside such as are missing: twice the wrong and once the missing ones may be as many as there are parity shards; one more, and too much is lost.
func TestReadWrong(t *testing.T) {
	g := api.Geometry{K: 2, M: 4, Size: 3, Stripes: 3, Slots: 1, Objects: 1}
	const shards = 6
	data := someData(g, 1)
	seen := [2]int{}
	for wrong := range 1 << shards {
		for gone := range 1 << shards {
			cost := 2*len(chosen(wrong, shards)) + len(chosen(gone, shards))
			if wrong&gone != 0 || cost > g.M+1 {
				continue
			}
			for at := range g.Size {
				w := fresh(t, g)
				w.writes(2, 9, data, api.OK)
				for _, shard := range chosen(wrong, shards) {
					w.forges(2, 9, shard, at)
				}
				for _, shard := range chosen(gone, shards) {
					w.renews(2, shard)
				}
				if cost <= g.M {
					w.reads(2, 9, data, chosen(wrong|gone, shards)...)
					seen[0]++
				} else {
					w.fails(2, 9, api.ErrDamaged)
					seen[1]++
				}
			}
		}
	}
	if seen[0] == 0 || seen[1] == 0 {
		t.Fatalf("of those that may be and those that may not be were tried %v", seen)
	}
}

// P15.3: as many wrong shards as may be, and one more, without parity to spare and with.
func TestReadWrongEdges(t *testing.T) {
	for _, c := range []struct{ k, m, most int }{{2, 0, 0}, {2, 1, 0}, {2, 2, 1}, {2, 3, 1}, {3, 4, 2}, {1, 5, 2}, {4, 6, 3}} {
		g := api.Geometry{K: c.k, M: c.m, Size: 2, Stripes: 3, Slots: 1, Objects: 1}
		w := fresh(t, g)
		data := someData(g, 1)
		w.writes(1, 9, data, api.OK)
		var wrong []int
		for shard := range c.most {
			w.forges(1, 9, shard, 1)
			wrong = append(wrong, shard)
		}
		w.reads(1, 9, data, wrong...)
		if c.m%2 == 0 {
			continue // one more may be the word of another stripe's data
		}
		w.forges(1, 9, c.most, 1)
		w.fails(1, 9, api.ErrDamaged)
	}
}

// P15.3: without parity what is wrong with a right check sum can't be told: the stripe is that, as errdec says.
func TestReadWrongWithoutParity(t *testing.T) {
	g := api.Geometry{K: 2, M: 0, Size: 2, Stripes: 3, Slots: 1, Objects: 1}
	w := fresh(t, g)
	w.writes(1, 9, []byte{1, 2, 3, 4}, api.OK)
	w.lays(1, 1, framed(placeOf(g, 1), 9, []byte{7, 8}))
	w.reads(1, 9, []byte{1, 2, 7, 8})
	w.fixes(1, 9, 0)
	w.renews(1, 0)
	w.fails(1, 9, api.ErrDamaged)
}

// P15.3: at each place of the shards others are wrong: all that were wrong at any are bad, rising.
func TestReadWrongHereAndThere(t *testing.T) {
	g := api.Geometry{K: 3, M: 2, Size: 5, Stripes: 4, Slots: 1, Objects: 1}
	w := fresh(t, g)
	data := someData(g, 1)
	w.writes(3, 9, data, api.OK)
	var bad []int
	for at, shard := range []int{4, 0, 2, 1, 3} {
		w.forges(3, 9, shard, at)
		bad = append(bad, shard)
		slices.Sort(bad)
		w.reads(3, 9, data, bad...)
	}
	w.fixes(3, 9, 5)
	w.reads(3, 9, data)
}

// P15.3: of just that epoch: of any other one nothing is there.
func TestReadOtherEpoch(t *testing.T) {
	for _, epoch := range []int{0, 1, 255, 256, maxNumber} {
		w := fresh(t, sturdy)
		w.writes(1, epoch, someData(sturdy, 1), api.OK)
		for _, other := range []int{0, 1, 2, epoch - 1, epoch + 1, epoch ^ 256, epoch ^ 1<<30, maxNumber} {
			if other >= 0 && other <= maxNumber && other != epoch {
				w.fails(1, other, api.ErrDamaged)
			}
		}
		w.reads(1, epoch, someData(sturdy, 1))
	}
}

// P15.3: a stripe that was never written, and one beside those that were.
func TestReadNothing(t *testing.T) {
	for _, g := range geometries() {
		w := fresh(t, g)
		w.fails(0, 0, api.ErrDamaged)
		w.fails(g.Stripes-1, maxNumber, api.ErrDamaged)
	}
	w := fresh(t, sturdy)
	w.writes(2, 9, someData(sturdy, 1), api.OK)
	w.fails(1, 9, api.ErrDamaged)
	w.fails(3, 9, api.ErrDamaged)
}

// P15.3, P15.4: while the power is gone: ErrCrashed, whatever the disks hold, dead or not, and whether there are such.
func TestReadCrashed(t *testing.T) {
	whole := fresh(t, example)
	whole.writes(0, 9, []byte{1, 2}, api.OK)
	empty, few, short := fresh(t, example), sized(t, example, 1, 8), sized(t, example, 3, 1)
	dead := fresh(t, example)
	for disk := range 3 {
		dead.a.Fail(disk)
	}
	for _, w := range []world{whole, empty, few, short, dead} {
		w.a.CrashAfter(0)
		for range 2 {
			w.fails(0, 9, api.ErrCrashed)
			w.fails(1, 3, api.ErrCrashed)
		}
	}
	whole.a.Restart([][]int{{6}, {6}, {6}})
	whole.reads(0, 9, []byte{1, 2})
}

// P15.3: reading is no writing: a crash that is to come does not come nearer by it.
func TestReadCountsNoWrites(t *testing.T) {
	w := fresh(t, example)
	w.writes(1, 9, []byte{1, 2}, api.OK)
	w.a.CrashAfter(1)
	for range 5 {
		w.reads(1, 9, []byte{1, 2})
		w.fixes(1, 9, 0)
	}
	if w.a.Down() {
		t.Fatal("the power went")
	}
}

// P15.3, P15.4: an array of fewer disks than the geometry has: a disk that there is not is as a dead one.
func TestReadFewerDisks(t *testing.T) {
	for disks := 1; disks <= 5; disks++ {
		for stripe := range sturdy.Stripes {
			w := sized(t, sturdy, disks, 64)
			data := someData(sturdy, stripe)
			w.writes(stripe, 9, data, api.OK)
			if disks < sturdy.K {
				w.fails(stripe, 9, api.ErrDamaged)
				continue
			}
			w.reads(stripe, 9, data)
			w.fixes(stripe, 9, 0)
			w.a.Replace(0)
			if disks == sturdy.K {
				w.fails(stripe, 9, api.ErrDamaged)
				continue
			}
			shard := (5 - stripe%5) % 5
			w.reads(stripe, 9, data, shard)
			w.fixes(stripe, 9, 1)
			w.reads(stripe, 9, data)
		}
	}
}

// P15.3: an array of more disks: those beyond do not matter, dead or not, whatever they hold.
func TestReadMoreDisks(t *testing.T) {
	w := sized(t, example, 6, 16)
	w.writes(1, 9, []byte{1, 2}, api.OK)
	w.a.Fail(3)
	w.a.Write(4, placeOf(example, 1), framed(placeOf(example, 1), 9, []byte{77}))
	w.reads(1, 9, []byte{1, 2})
	w.fixes(1, 9, 0)
	w.renews(1, 2)
	w.reads(1, 9, []byte{1, 2}, 2)
	before := snapshot(w.a)
	before.sides[on(example, 1, 2)].waits[placeOf(example, 1)] = packed(t, example, 1, 9, []byte{1, 2})[2]
	w.fixes(1, 9, 1)
	holds(t, "behind Fix of more disks", w.a, before)
}

// P15.3: disks of fewer sectors than the geometry asks: what would lie beyond is not there.
func TestReadFewerSectors(t *testing.T) {
	w := sized(t, sturdy, 5, placeOf(sturdy, 3))
	for stripe := range sturdy.Stripes {
		w.writes(stripe, 9, someData(sturdy, stripe), api.OK)
	}
	for stripe := range sturdy.Stripes {
		if stripe < 3 {
			w.reads(stripe, 9, someData(sturdy, stripe))
		} else {
			w.fails(stripe, 9, api.ErrDamaged)
		}
	}
}

// P15.3: the shards of other stripes, laid where this one's are, are none of its.
func TestReadOtherStripe(t *testing.T) {
	w := fresh(t, sturdy)
	for stripe := range sturdy.Stripes {
		w.writes(stripe, 9, someData(sturdy, stripe), api.OK)
	}
	for shard := range sturdy.M {
		w.lays(2, shard, w.lies(3, shard))
		w.reads(2, 9, someData(sturdy, 2), chosen(1<<(shard+1)-1, 5)...)
	}
	w.lays(2, 4, w.lies(1, 4))
	w.fails(2, 9, api.ErrDamaged)
}

// P15.3: shards of another disk, whose place and epoch are right, are wrong ones.
func TestReadSwapped(t *testing.T) {
	g := api.Geometry{K: 3, M: 4, Size: 4, Stripes: 3, Slots: 1, Objects: 1}
	w := fresh(t, g)
	data := someData(g, 5)
	w.writes(1, 9, data, api.OK)
	first, last := w.lies(1, 0), w.lies(1, 6)
	w.lays(1, 0, last)
	w.lays(1, 6, first)
	w.reads(1, 9, data, 0, 6)
	w.fixes(1, 9, 2)
	w.reads(1, 9, data)
}
