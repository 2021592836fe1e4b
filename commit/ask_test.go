package commit_test

import (
	"slices"
	"testing"

	"aumbry/api"
	"aumbry/array"
	"aumbry/commit"
)

// P20.5: keys rise, whatever the order in which they were put.
func TestListRises(t *testing.T) {
	keys := []string{"b", "a", "ab", "\xff", "c", "B", "\x00", "aa"}
	b := made(t, api.Geometry{K: 1, Size: 1, Stripes: 40, Slots: 5, Objects: 10})
	for i, key := range keys {
		b.puts(key, text(i, i), api.OK)
		b.lists(slices.Sorted(slices.Values(keys[:i+1]))...)
	}
	b.deletes("ab", api.OK)
	b.lists("\x00", "B", "a", "aa", "b", "c", "\xff")
	b.recovers(api.OK)
	b.lists("\x00", "B", "a", "aa", "b", "c", "\xff")
}

// P20.5: State tells the checkpoint's area and epoch, but the objects of now, with the epochs of their own records.
func TestState(t *testing.T) {
	b := made(t, example)
	for range 2 {
		b.isAt(0, 0, 0)
		b.has()
		b.recovers(api.OK)
	}
	b.puts("b", "hello", api.OK)
	b.isAt(0, 0, 1)
	b.has(object("b", 5, 1, 0, 1))
	b.puts("a", "x", api.OK)
	b.isAt(0, 0, 2)
	b.has(object("a", 1, 2, 2), object("b", 5, 1, 0, 1))
	b.puts("c", "", api.OK)
	b.isAt(1, 2, 1)
	b.deletes("b", api.OK)
	b.isAt(1, 2, 2)
	b.puts("a", "123456789", api.OK)
	for range 3 {
		b.isAt(0, 4, 1)
		b.has(object("a", 9, 5, 0, 1, 3), object("c", 0, 3))
		b.recovers(api.OK)
	}
}

// P20.5: Disks are those that the store was made with, whatever became of them, by Format and by Recover.
func TestDisks(t *testing.T) {
	for _, g := range geometries() {
		a := disksOf(t, g)
		s, err := commit.Format(a, field, g)
		v, other := commit.Recover(a, field, g)
		if err != api.OK || other != api.OK {
			t.Fatal(err, other)
		}
		for _, s := range []*commit.Store{s, v} {
			if disks, f, h := s.Disks(); disks != a || f != field || h != g {
				t.Errorf("Disks = %p, %p, %+v", disks, f, h)
			}
		}
	}
}

// P20.5: a store that was told another way, by what is beneath it, reads what is there now: the stripes are read anew each time.
func TestGetReadsDisks(t *testing.T) {
	b := made(t, example)
	b.puts("a", "hello", api.OK)
	b.disks(func(a *array.Array) {
		for disk := range 3 {
			for i, shards := range [][]string{{"HE", "LL"}, {"O\x00", "\x00\x00"}} {
				var parity []byte
				for j := range 2 {
					parity = append(parity, field.Mul(142, shards[0][j])^field.Mul(244, shards[1][j]))
				}
				all := append(shards, string(parity))
				a.Write(disk, stripePlace(example, i), []byte(framed(stripePlace(example, i), 1, all[(disk+3-i)%3])))
			}
		}
	})
	b.gets("a", "HELLO", api.OK)
}

// P20.5: the object is read with its own epoch: what lies in its stripes of another one is not there.
func TestGetByEpoch(t *testing.T) {
	for _, epoch := range []int{0, 2, 3, 4} {
		b := made(t, example)
		b.puts("x", "", api.OK)
		b.puts("x", "", api.OK)
		b.puts("a", "1234", api.OK)
		want, data := api.ErrDamaged, ""
		if epoch == 3 {
			want, data = api.OK, "1234"
		}
		b.disks(func(a *array.Array) {
			for disk, shard := range []string{"12", "34"} {
				a.Write(disk, 7, []byte(framed(7, epoch, shard)))
			}
		})
		b.gets("a", data, want)
	}
}

// W1, W4, P20.5: with up to M disks failed, replaced or hurt all is read, ahead of Recover and behind it; with one more that is told, or all is right.
func TestHurtDisks(t *testing.T) {
	ways := []func(b *both, disk int){
		func(b *both, disk int) { b.fail(disk) },
		func(b *both, disk int) { b.replace(disk) },
		func(b *both, disk int) {
			for place := range sizeOf(b.g) {
				b.corrupt(disk, place, place*5, 0x40)
			}
		},
	}
	for _, g := range []api.Geometry{example, {K: 1, M: 2, Size: 3, Stripes: 5, Slots: 1, Objects: 2}, {K: 3, M: 2, Size: 4, Stripes: 7, Slots: 3, Objects: 4}, {K: 2, M: 0, Size: 2, Stripes: 4, Slots: 2, Objects: 3}} {
		for hurt := range 1 << (g.K + g.M) {
			disks := slices.DeleteFunc(upTo(g.K+g.M), func(disk int) bool { return hurt>>disk&1 == 0 })
			if len(disks) > g.M+1 {
				continue
			}
			for kind := range len(ways) + 1 {
				b := made(t, g)
				b.puts("a", text(partOf(g)+1, 1), api.OK)
				b.puts("b", text(partOf(g), 2), api.OK)
				for i, disk := range disks {
					ways[(kind+i*(kind/len(ways)))%len(ways)](b, disk)
				}
				b.keepsWord()
				b.asksAll("a", "b", "c")
				if b.recover() == api.OK {
					b.keepsWord()
				} else if len(disks) <= g.M {
					t.Fatalf("%+v: not recovered, though only %d are hurt", g, disks)
				}
				b.put("a", text(1, 3))
				b.remove("b")
				b.asksAll("a", "b", "c")
			}
		}
	}
}

// P20.5: with twice as many parity shards as disks that tell wrong bytes in whole sectors, all is put right.
func TestWrongShards(t *testing.T) {
	g := api.Geometry{K: 2, M: 2, Size: 2, Stripes: 4, Slots: 2, Objects: 3}
	for disk := range 4 {
		b := made(t, g)
		b.puts("a", "hello", api.OK)
		b.disks(func(a *array.Array) {
			for i := range 2 {
				a.Write(disk, stripePlace(g, i), []byte(framed(stripePlace(g, i), 1, "??")))
			}
		})
		b.gets("a", "hello", api.OK)
		b.recovers(api.OK)
		b.gets("a", "hello", api.OK)
	}
}

// P20.5: a byte changed at any place of any disk is one hurt disk.
func TestEachByte(t *testing.T) {
	for disk := range 3 {
		for place := range sizeOf(example) {
			for at := range 20 {
				b := made(t, example)
				b.puts("a", "hello", api.OK)
				b.puts("b", "1234", api.OK)
				b.puts("c", "", api.OK)
				b.corrupt(disk, place, at, byte(1<<(at%8)))
				b.keepsWord()
				b.recovers(api.OK)
				b.keepsWord()
				b.puts("c", "x", api.OK)
				b.recovers(api.OK)
				b.keepsWord()
			}
		}
	}
}

// P20.5: the first stripe that can't be read tells the error; the object stays as it was, and is there again if its bytes are.
func TestGetDamaged(t *testing.T) {
	for stripe := range 3 {
		b := made(t, example)
		b.puts("a", text(12, 1), api.OK)
		for range 2 {
			for disk := range 2 {
				b.corrupt(disk, stripePlace(example, stripe), 3, 8)
			}
			if want, _ := b.get("a"); len(want) == 0 {
				b.stats("a", 12, api.OK)
				b.lists("a")
			}
		}
		b.gets("a", text(12, 1), api.OK)
		b.fail(stripe)
		b.gets("a", text(12, 1), api.OK)
	}
}
