package commit_test

import (
	"fmt"
	"testing"

	"aumbry/api"
	"aumbry/array"
)

// kept is what may last of what waits on disks: all ways, if no more sectors than most wait; else none, all, each alone, all but each, those of each disk, and of all but each.
func kept(a *array.Array, most int) [][][]int {
	type spot struct{ disk, place int }
	var waiting []spot
	disks := len(a.Live())
	for disk := range disks {
		for _, h := range a.Waits(disk) {
			waiting = append(waiting, spot{disk, h.Addr})
		}
	}
	choose := func(is func(i int, s spot) bool) [][]int {
		keep := make([][]int, disks)
		for i, s := range waiting {
			if is(i, s) {
				keep[s.disk] = append(keep[s.disk], s.place)
			}
		}
		return keep
	}
	var l [][][]int
	if len(waiting) <= most {
		for bits := range 1 << len(waiting) {
			l = append(l, choose(func(i int, _ spot) bool { return bits>>i&1 == 1 }))
		}
		return l
	}
	l = append(l, nil, choose(func(int, spot) bool { return true }))
	for n := range waiting {
		l = append(l, choose(func(i int, _ spot) bool { return i == n }), choose(func(i int, _ spot) bool { return i != n }))
	}
	for disk := range disks {
		l = append(l, choose(func(_ int, s spot) bool { return s.disk == disk }), choose(func(_ int, s spot) bool { return s.disk != disk }))
	}
	return l
}

// cutCall is a call that the power's going cuts, and what was told ahead of it.
type cutCall struct {
	name  string
	ahead func(b *both)
	do    func(b *both) api.Errno
}

// cutCalls are puts and deletes of all kinds behind up to so many calls, with room made and without, on new disks and on hurt ones.
func cutCalls(most int) []cutCall {
	fill := func(n int) func(b *both) {
		return func(b *both) {
			for i := range n {
				b.puts(keyOf(i%2), text(3+i%3, i), api.OK)
			}
		}
	}
	put := func(key, data string) func(b *both) api.Errno {
		return func(b *both) api.Errno { return b.put(key, data) }
	}
	drop := func(key string) func(b *both) api.Errno {
		return func(b *both) api.Errno { return b.remove(key) }
	}
	var l []cutCall
	for n := range most + 1 {
		l = append(l,
			cutCall{fmt.Sprint("put an empty one behind ", n), fill(n), put("z", "")},
			cutCall{fmt.Sprint("put behind ", n), fill(n), put("z", "xyz")},
			cutCall{fmt.Sprint("put of two parts behind ", n), fill(n), put("k000", "hello")},
		)
		if n > 0 {
			l = append(l, cutCall{fmt.Sprint("delete behind ", n), fill(n), drop("k000")})
		}
	}
	hurt := func(n int, hurt func(b *both)) func(b *both) {
		return func(b *both) { fill(n)(b); hurt(b) }
	}
	for n := 1; n <= min(most, 4); n++ {
		l = append(l,
			cutCall{fmt.Sprint("put on two disks behind ", n), hurt(n, func(b *both) { b.fail(n % 3) }), put("k000", "xyz")},
			cutCall{fmt.Sprint("put on a new disk behind ", n), hurt(n, func(b *both) { b.replace(n % 3) }), put("k000", "xyz")},
			cutCall{fmt.Sprint("delete on two disks behind ", n), hurt(n, func(b *both) { b.fail(n % 3) }), drop("k000")},
			cutCall{fmt.Sprint("delete on a new disk behind ", n), hurt(n, func(b *both) { b.replace(n % 3) }), drop("k000")},
		)
	}
	return l
}

// crashed is a store whose call was cut behind so many writes; false: it was not cut.
func (c cutCall) crashed(t *testing.T, g api.Geometry, writes int) (*both, bool) {
	b := blank(t, g, sizeOf(g))
	b.quietly(func() { b.formats(api.OK); c.ahead(b) })
	b.crashAfter(writes)
	err := c.do(b)
	if err != api.OK && err != api.ErrCrashed {
		t.Fatalf("%s, cut behind %d writes: %d", c.name, writes, err)
	}
	return b, err == api.ErrCrashed
}

// goesOn asks that behind a Recover what was told OK is there, that each call is done again, and that a second Recover tells the same.
func (b *both) goesOn() {
	b.t.Helper()
	b.keepsWord()
	b.recovers(api.OK)
	b.keepsWord()
	b.puts("k000", "new", api.OK)
	b.put("y", "12345")
	b.deletes("k000", api.OK)
	b.recovers(api.OK)
	b.keepsWord()
	b.fillsUp()
	b.recovers(api.OK)
	b.keepsWord()
}

// crashGeometry has room for all that the cut calls put.
var crashGeometry = api.Geometry{K: 2, M: 1, Size: 2, Stripes: 8, Slots: 2, Objects: 4}

// P20.6, W2: a put and a delete cut at each write, and of what waits each part lasting: behind Recover what was told OK is there, the cut call's whole or not at all, and all goes on.
func TestCrashes(t *testing.T) {
	eachCut(t, cutCalls(5), crashGeometry, 6, func(_ int, begun func() *both) {
		b := begun()
		b.recovers(api.OK)
		b.goesOn()
	})
}

// eachCut tells of each of some calls, cut at each write, and of each way in which what waits may last: what begins with a store of such disks, the power having come.
func eachCut(t *testing.T, calls []cutCall, g api.Geometry, most int, tell func(i int, begun func() *both)) {
	for _, c := range calls {
		t.Run(c.name, func(t *testing.T) {
			t.Parallel()
			for writes := 0; ; writes++ {
				b, is := c.crashed(t, g, writes)
				if !is {
					return
				}
				for i, keep := range kept(b.a, most) {
					tell(i+writes, func() *both {
						b, _ := c.crashed(t, g, writes)
						b.restart(keep)
						return b
					})
				}
			}
		})
	}
}

// P20.6: what the cut call left is done, or not, by what lasts of its record alone: no copy: not; one or more: done.
func TestRecordTells(t *testing.T) {
	for bits := range 1 << 3 {
		b := made(t, example)
		b.puts("a", "hello", api.OK)
		b.crashAfter(6)
		b.puts("a", "new", api.ErrCrashed)
		keep := make([][]int, 3)
		for disk := range keep {
			if bits>>disk&1 == 1 {
				keep[disk] = []int{slotPlace(1)}
			}
		}
		b.restart(keep)
		b.recovers(api.OK)
		want := "hello"
		if bits > 0 {
			want = "new"
		}
		b.gets("a", want, api.OK)
		b.goesOn()
	}
}

// P20.6, W2: Recover itself is cut, at each write and behind the last one, of what a cut call left; and then it is done.
func TestCrashesOfRecover(t *testing.T) {
	eachCut(t, cutCalls(2), crashGeometry, 1, func(_ int, begun func() *both) { recoverCut(begun) })
}

// recoverCut cuts Recover of a store behind each of its writes, and asks that all goes on.
func recoverCut(begun func() *both) {
	for writes := 0; ; writes++ {
		b := begun()
		b.crashAfter(writes)
		if b.recover() == api.OK {
			return
		}
		for _, keep := range kept(b.a, 2) {
			b := begun()
			b.crashAfter(writes)
			b.recovers(api.ErrCrashed)
			b.restart(keep)
			b.recovers(api.OK)
			b.keepsWord()
			b.puts("k000", "new", api.OK)
			b.recovers(api.OK)
			b.keepsWord()
		}
	}
}

// P20.6, W2: Recover is cut that mends a disk that was replaced, at each write.
func TestCrashesOfMending(t *testing.T) {
	for calls := range 7 {
		for disk := range 3 {
			recoverCut(func() *both {
				b := made(t, crashGeometry)
				b.quietly(func() {
					for i := range calls {
						b.puts(keyOf(i%2), text(3+i%3, i), api.OK)
					}
				})
				b.replace(disk)
				return b
			})
		}
	}
}

// P20.6: Format cut at each write, and of what waits each part lasting, on new disks: there is a store without objects, or none, and Format makes one then.
func TestCrashesOfFormat(t *testing.T) {
	for writes := range 10 {
		begun := func() *both {
			b := blank(t, crashGeometry, sizeOf(crashGeometry))
			b.crashAfter(writes)
			b.formats(api.ErrCrashed)
			return b
		}
		for _, keep := range kept(begun().a, 6) {
			b := begun()
			b.restart(keep)
			switch b.recover() {
			case api.OK:
				b.lists()
				b.isAt(0, 0, 0)
			case api.ErrDamaged:
				b.formats(api.OK)
			default:
				t.Fatalf("cut behind %d writes", writes)
			}
			b.puts("k000", "old", api.OK)
			b.goesOn()
		}
	}
}

// P20.6, W2: the power goes in each of many calls, one behind the other, ever later, with ever other sectors kept.
func TestCrashesAgainAndAgain(t *testing.T) {
	for seed := range 40 {
		b := made(t, crashGeometry)
		for i := range 30 {
			b.crashAfter((seed + i*i) % 17)
			key := keyOf((seed + i) % 3)
			var err api.Errno
			if i%4 == 3 {
				err = b.remove(key)
			} else {
				err = b.put(key, text((seed*i)%9, i))
			}
			if err == api.ErrCrashed || b.a.Down() {
				all := kept(b.a, 5)
				b.restart(all[(seed*7+i*3)%len(all)])
			} else {
				b.restart(nil)
			}
			b.recovers(api.OK)
			b.keepsWord()
		}
		b.goesOn()
	}
}

// P20.6: disks fail, up to as many as there are parity shards, between the crash and Recover.
func TestFaultsBehindCrashes(t *testing.T) {
	g := api.Geometry{K: 2, M: 2, Size: 2, Stripes: 8, Slots: 2, Objects: 4}
	eachCut(t, cutCalls(3)[4:14], g, 0, func(i int, begun func() *both) {
		b := begun()
		b.fail(i % 4)
		b.replace((i + 1 + i%3) % 4)
		b.recovers(api.OK)
		b.goesOn()
	})
}
