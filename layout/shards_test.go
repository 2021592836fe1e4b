package layout_test

import (
	"math"
	"math/big"
	"testing"

	"aumbry/api"
	"aumbry/layout"
)

// P14.3: the shards of each stripe lie on the disks one behind the other, and each stripe begins one disk further.
func TestDisk(t *testing.T) {
	for _, g := range geometries() {
		disks := g.K + g.M
		begin := 0
		for stripe := range g.Stripes {
			disk := begin
			for shard := range disks {
				answered(t, "Disk()", g, layout.Disk(g, stripe, shard), disk)
				if disk++; disk == disks {
					disk = 0
				}
			}
			if begin++; begin == disks {
				begin = 0
			}
		}
	}
}

// P14.3: Disk and Shard undo each other.
func TestShardUndoesDisk(t *testing.T) {
	for _, g := range geometries() {
		for stripe := range g.Stripes {
			for n := range g.K + g.M {
				answered(t, "Shard() of Disk()", g, layout.Shard(g, stripe, layout.Disk(g, stripe, n)), n)
				answered(t, "Disk() of Shard()", g, layout.Disk(g, stripe, layout.Shard(g, stripe, n)), n)
			}
		}
	}
}

// P14.4: a stripe's shards lie on unlike disks, each of which there is; and a disk's shards are some that there are.
func TestUnlikeDisks(t *testing.T) {
	for _, g := range geometries() {
		disks := g.K + g.M
		for stripe := range g.Stripes {
			var taken, held [maxDisks]bool
			for n := range disks {
				disk, shard := layout.Disk(g, stripe, n), layout.Shard(g, stripe, n)
				if disk < 0 || disk >= disks || taken[disk] {
					t.Fatalf("Disk(%d, %d) of %+v = %d: another shard's, or none", stripe, n, g, disk)
				}
				if shard < 0 || shard >= disks || held[shard] {
					t.Fatalf("Shard(%d, %d) of %+v = %d: another disk's, or none", stripe, n, g, shard)
				}
				taken[disk], held[shard] = true, true
			}
		}
	}
}

// P14.3: disks and shards by hand.
func TestDiskByHand(t *testing.T) {
	five := api.Geometry{K: 3, M: 2, Size: 7, Stripes: 11, Slots: 64, Objects: 64}
	for _, c := range []struct {
		g                   api.Geometry
		stripe, shard, disk int
	}{
		{example, 0, 0, 0}, {example, 0, 2, 2}, {example, 1, 0, 1}, {example, 1, 2, 0}, {example, 4, 0, 1}, {example, 4, 2, 0},
		{five, 0, 4, 4}, {five, 3, 1, 4}, {five, 3, 2, 0}, {five, 10, 0, 0}, {five, 10, 4, 4}, {five, 9, 0, 4},
		{greatest, 255, 0, 31}, {greatest, 255, 1, 0}, {greatest, 255, 31, 30}, {greatest, 0, 31, 31}, {greatest, 32, 0, 0},
		{least, 0, 0, 0},
	} {
		answered(t, "Disk()", c.g, layout.Disk(c.g, c.stripe, c.shard), c.disk)
		answered(t, "Shard()", c.g, layout.Shard(c.g, c.stripe, c.disk), c.shard)
	}
}

// P14.3: Disk and Shard do not hang on which of the disks' shards are parity, nor on Size, Slots and Objects.
func TestDiskOfOtherNumbers(t *testing.T) {
	g, other := greatest, api.Geometry{K: 32, M: 0, Size: 1, Stripes: maxStripes, Slots: 1, Objects: 1}
	for stripe := range maxStripes {
		for n := range maxDisks {
			answered(t, "Disk()", other, layout.Disk(other, stripe, n), layout.Disk(g, stripe, n))
			answered(t, "Shard()", other, layout.Shard(other, stripe, n), layout.Shard(g, stripe, n))
		}
	}
}

// P14.3: a stripe, a shard or a disk that there is not.
func TestNoSuchShard(t *testing.T) {
	for _, g := range geometries() {
		disks := g.K + g.M
		for _, bad := range outside(g.Stripes) {
			for n := range disks {
				answered(t, "Disk of no stripe", g, layout.Disk(g, bad, n), 0)
				answered(t, "Shard of no stripe", g, layout.Shard(g, bad, n), 0)
			}
			for _, other := range outside(disks) {
				answered(t, "Disk of neither", g, layout.Disk(g, bad, other), 0)
				answered(t, "Shard of neither", g, layout.Shard(g, bad, other), 0)
			}
		}
		for _, bad := range outside(disks) {
			for stripe := range g.Stripes {
				answered(t, "Disk of no shard", g, layout.Disk(g, stripe, bad), 0)
				answered(t, "Shard of no disk", g, layout.Shard(g, stripe, bad), 0)
			}
		}
	}
}

// P14.3: Needs of nothing, and of what is below it.
func TestNeedsNothing(t *testing.T) {
	for _, g := range geometries() {
		for _, bytes := range []int{0, -1, -2, -g.Size, -g.K * g.Size, -g.K*g.Size - 1, -1 << 32, math.MinInt, math.MinInt + 1} {
			answered(t, "Needs()", g, layout.Needs(g, bytes), 0)
		}
	}
}

// P14.3: Needs of just some stripes' bytes, one less and one more; more stripes than there are among them.
func TestNeeds(t *testing.T) {
	for _, g := range geometries() {
		per := g.K * g.Size
		answered(t, "Needs(1)", g, layout.Needs(g, 1), 1)
		for _, stripes := range []int{1, 2, 3, 10, g.Stripes - 1, g.Stripes, g.Stripes + 1, 1 << 20} {
			if stripes < 1 {
				continue
			}
			bytes := stripes * per
			answered(t, "Needs of just some stripes", g, layout.Needs(g, bytes), stripes)
			answered(t, "Needs of one more", g, layout.Needs(g, bytes+1), stripes+1)
			// One less than a stripe of a single byte is another stripe's whole.
			less := stripes
			if per == 1 {
				less--
			}
			answered(t, "Needs of one less", g, layout.Needs(g, bytes-1), less)
		}
	}
}

// P14.3: Needs of each number of bytes, counted stripe by stripe.
func TestNeedsCounted(t *testing.T) {
	for _, g := range []api.Geometry{example, least, {K: 3, M: 2, Size: 7, Stripes: 11, Slots: 64, Objects: 64}} {
		stripes, room := 0, 0
		for bytes := range 500 {
			if bytes > room {
				stripes++
				room += g.K * g.Size
			}
			answered(t, "Needs()", g, layout.Needs(g, bytes), stripes)
		}
	}
}

// P14.3: Needs of the greatest numbers that there are: so many stripes hold the bytes, and one less do not.
func TestNeedsOfTheGreatest(t *testing.T) {
	for _, g := range geometries() {
		per := big.NewInt(int64(g.K * g.Size))
		for _, bytes := range []int{math.MaxInt, math.MaxInt - 1, math.MaxInt - 131071, 1 << 62, 1<<62 + 1, 1 << 32, 1<<31 - 1} {
			n := big.NewInt(int64(layout.Needs(g, bytes)))
			room := new(big.Int).Mul(n, per)
			less := new(big.Int).Sub(room, per)
			if all := big.NewInt(int64(bytes)); room.Cmp(all) < 0 || less.Cmp(all) >= 0 {
				t.Fatalf("Needs(%d) of %+v = %v", bytes, g, n)
			}
		}
	}
	answered(t, "Needs()", least, layout.Needs(least, math.MaxInt), math.MaxInt)
	answered(t, "Needs()", greatest, layout.Needs(greatest, math.MaxInt), 1<<47)
	answered(t, "Needs()", example, layout.Needs(example, math.MaxInt), 1<<60)
}
