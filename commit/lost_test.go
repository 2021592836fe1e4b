package commit_test

import (
	"testing"

	"aumbry/api"
)

// allCrashed asks that the store is lost: each call but State and Disks is told ErrCrashed, a bad key's too.
func (b *both) allCrashed() {
	b.t.Helper()
	before := snapshot(b.a)
	for _, key := range []string{"a", "none", "", longKey(65)} {
		b.puts(key, "x", api.ErrCrashed)
		b.puts(key, text(1000, 1), api.ErrCrashed)
		b.deletes(key, api.ErrCrashed)
		b.gets(key, "", api.ErrCrashed)
		b.stats(key, 0, api.ErrCrashed)
	}
	if l, err := b.s.List(); len(l) != 0 || err != api.ErrCrashed {
		b.t.Fatalf("List = %q, %d", l, err)
	}
	b.stands()
	if !sameShot(snapshot(b.a), before) {
		b.t.Fatalf("a lost store has changed the disks")
	}
}

// P20.3: from the first ErrCrashed on a store is lost, by whichever call it is told, though the power comes; another one is recovered.
func TestLost(t *testing.T) {
	for name, call := range map[string]func(b *both) api.Errno{
		"put":          func(b *both) api.Errno { return b.put("a", "new") },
		"put empty":    func(b *both) api.Errno { return b.put("b", "") },
		"put another":  func(b *both) api.Errno { return b.put("c", "1234") },
		"delete":       func(b *both) api.Errno { return b.remove("a") },
		"get":          func(b *both) api.Errno { _, err := b.get("a"); return err },
		"get the last": func(b *both) api.Errno { _, err := b.get("b"); return err },
	} {
		for _, room := range []bool{false, true} {
			b := made(t, example)
			b.puts("a", "hello", api.OK)
			if room {
				b.puts("b", "x", api.OK)
			} else if name == "get the last" {
				continue
			}
			b.crashAfter(0)
			b.stats("a", 5, api.OK)
			b.is(name, "", call(b), api.ErrCrashed)
			elder := b.s
			b.allCrashed()
			b.restart(nil)
			b.allCrashed()
			b.recovers(api.OK)
			b.keepsWord()
			b.gets("a", "hello", api.OK)
			b.puts("a", "x", api.OK)
			if err := elder.Put("a", nil); err != api.ErrCrashed {
				t.Errorf("%s: the elder store: %d", name, err)
			}
			if s, _ := elder.State(); len(s.Objects) == 0 || s.Objects[0].Length != 5 {
				t.Errorf("%s: the elder store's State = %v", name, s)
			}
		}
	}
}

// P20.3: power that goes and comes again between two calls is told to nobody: the store is not lost, and holds all that was told OK.
func TestPowerBetweenCalls(t *testing.T) {
	b := made(t, example)
	for i := range 12 {
		b.puts(keyOf(i%3), text(1+i%4, i), api.OK)
		b.crashAfter(0)
		b.restart(nil)
		b.asksAll()
	}
	b.recovers(api.OK)
	b.keepsWord()
}

// P20.3: an error that is not ErrCrashed loses nothing.
func TestNotLost(t *testing.T) {
	b := made(t, example)
	b.puts("a", "hello", api.OK)
	b.puts("", "", api.ErrBadKey)
	b.puts("b", text(9, 1), api.ErrNoSpace)
	b.deletes("b", api.ErrNotFound)
	b.gets("b", "", api.ErrNotFound)
	b.fail(0)
	b.fail(1)
	b.gets("a", "", api.ErrDamaged)
	b.fail(2)
	b.puts("b", "", api.ErrDamaged)
	b.deletes("a", api.ErrDamaged)
	b.stats("a", 5, api.OK)
	b.replace(0)
	b.deletes("a", api.OK)
	b.lists()
}

// P20.3: a put that is cut behind room was made has made the room; State tells so, though the store is lost.
func TestLostBehindRoom(t *testing.T) {
	for writes := range 13 {
		b := made(t, example)
		b.puts("a", "hello", api.OK)
		b.puts("b", "x", api.OK)
		b.crashAfter(writes)
		b.puts("a", "y", api.ErrCrashed)
		if writes > 6 {
			b.isAt(1, 2, 0)
		} else {
			b.isAt(0, 0, 2)
		}
		b.has(object("a", 5, 1, 0, 1), object("b", 1, 2, 2))
		b.allCrashed()
	}
}
