package commit_test

import (
	"maps"
	"slices"
	"testing"

	"aumbry/api"
	"aumbry/array"
	"aumbry/commit"
)

// both are a store and a model, told the same, and whose disks are: what they answer is held against each other. Beside that stands what was told OK: want, by keys; and cut, what a cut call would have made of it.
type both struct {
	t         *testing.T
	g         api.Geometry
	a         *array.Array
	s         *commit.Store
	m         *model
	want, cut map[string]string
	hurt      map[int]bool // disks that failed, were replaced, or had bytes changed
	quiet     bool         // nothing is held against each other but what is answered
}

// quietly does what was held against each other elsewhere.
func (b *both) quietly(do func()) {
	b.quiet = true
	do()
	b.quiet = false
}

// blank has disks, and no store yet.
func blank(t *testing.T, g api.Geometry, size int) *both {
	t.Helper()
	return &both{t: t, g: g, a: fresh(t, g.K+g.M, size), m: &model{a: fresh(t, g.K+g.M, size), g: g}, want: map[string]string{}, hurt: map[int]bool{}}
}

// made is a store on new disks.
func made(t *testing.T, g api.Geometry) *both {
	t.Helper()
	b := blank(t, g, sizeOf(g))
	b.formats(api.OK)
	return b
}

// is asks for an error of a call with a key, or without.
func (b *both) is(call, key string, got, want api.Errno) api.Errno {
	b.t.Helper()
	if got != want {
		b.t.Fatalf("%s(%.20q) = %d, want %d", call, key, got, want)
	}
	return got
}

func (b *both) format() api.Errno {
	b.t.Helper()
	m, want := modelFormat(b.m.a, b.g)
	s, err := commit.Format(b.a, field, b.g)
	return b.begin("Format", s, err, m, want)
}

func (b *both) recover() api.Errno {
	b.t.Helper()
	m, want := modelRecover(b.m.a, b.g)
	s, err := commit.Recover(b.a, field, b.g)
	return b.begin("Recover", s, err, m, want)
}

// begin goes on with another store, if there is one; else with the elder one.
func (b *both) begin(what string, s *commit.Store, err api.Errno, m *model, want api.Errno) api.Errno {
	b.t.Helper()
	b.is(what, "", err, want)
	if (s != nil) != (err == api.OK) {
		b.t.Fatalf("%s = %v, %d", what, s != nil, err)
	}
	if err == api.OK {
		b.s, b.m = s, m
	}
	b.stands()
	return err
}

func (b *both) put(key, data string) api.Errno {
	b.t.Helper()
	err := b.is("Put", key, b.s.Put(key, []byte(data)), b.m.put(key, data))
	b.told(err, func(l map[string]string) { l[key] = data })
	b.stands()
	return err
}

func (b *both) remove(key string) api.Errno {
	b.t.Helper()
	err := b.is("Delete", key, b.s.Delete(key), b.m.remove(key))
	b.told(err, func(l map[string]string) { delete(l, key) })
	b.stands()
	return err
}

// told keeps what a change that was told OK, or was cut, makes of what there is.
func (b *both) told(err api.Errno, change func(l map[string]string)) {
	next := maps.Clone(b.want)
	change(next)
	switch {
	case err == api.OK:
		b.want = next
	case err == api.ErrCrashed && b.cut == nil:
		b.cut = next
	}
}

func (b *both) get(key string) (string, api.Errno) {
	b.t.Helper()
	want, wantErr := b.m.get(key)
	d, err := b.s.Get(key)
	b.is("Get", key, err, wantErr)
	if string(d) != want {
		b.t.Fatalf("Get(%.20q) = %.80q, want %.80q", key, d, want)
	}
	return want, err
}

func (b *both) stat(key string) (int, api.Errno) {
	b.t.Helper()
	want, wantErr := b.m.stat(key)
	n, err := b.s.Stat(key)
	b.is("Stat", key, err, wantErr)
	if n != want {
		b.t.Fatalf("Stat(%.20q) = %d, want %d", key, n, want)
	}
	return n, err
}

func (b *both) list() ([]string, api.Errno) {
	b.t.Helper()
	var want []string
	wantErr := api.OK
	if b.m.lost {
		wantErr = api.ErrCrashed
	} else {
		want = b.m.keys()
	}
	l, err := b.s.List()
	b.is("List", "", err, wantErr)
	if !slices.Equal(l, want) {
		b.t.Fatalf("List = %q, want %q", l, want)
	}
	return l, err
}

// What follows asks for just that answer, told to both.
func (b *both) formats(want api.Errno)  { b.t.Helper(); b.is("Format", "", b.format(), want) }
func (b *both) recovers(want api.Errno) { b.t.Helper(); b.is("Recover", "", b.recover(), want) }
func (b *both) puts(key, data string, w api.Errno) {
	b.t.Helper()
	b.is("Put", key, b.put(key, data), w)
}
func (b *both) deletes(key string, want api.Errno) {
	b.t.Helper()
	b.is("Delete", key, b.remove(key), want)
}

func (b *both) gets(key, data string, want api.Errno) {
	b.t.Helper()
	d, err := b.get(key)
	b.is("Get", key, err, want)
	if d != data {
		b.t.Fatalf("Get(%.20q) = %.80q, want %.80q", key, d, data)
	}
}

func (b *both) stats(key string, n int, want api.Errno) {
	b.t.Helper()
	got, err := b.stat(key)
	b.is("Stat", key, err, want)
	if got != n {
		b.t.Fatalf("Stat(%.20q) = %d, want %d", key, got, n)
	}
}

func (b *both) lists(want ...string) {
	b.t.Helper()
	l, err := b.list()
	b.is("List", "", err, api.OK)
	if !slices.Equal(l, want) {
		b.t.Fatalf("List = %q, want %q", l, want)
	}
}

// isAt asks for the latest checkpoint's area and epoch, and for the count.
func (b *both) isAt(area, base, count int) {
	b.t.Helper()
	s, n := b.s.State()
	if s.Area != area || s.Epoch != base || n != count {
		b.t.Fatalf("State = area %d, epoch %d, count %d, want %d, %d, %d", s.Area, s.Epoch, n, area, base, count)
	}
}

// has asks for all objects of now.
func (b *both) has(want ...api.Object) {
	b.t.Helper()
	s, _ := b.s.State()
	if !slices.EqualFunc(s.Objects, want, sameObject) {
		b.t.Fatalf("State = %v, want %v", s.Objects, want)
	}
}

// stands asks that all that can be told without the disks' being asked is the same, and that the disks are.
func (b *both) stands() {
	b.t.Helper()
	if b.quiet {
		return
	}
	if got, want := snapshot(b.a), snapshot(b.m.a); !sameShot(got, want) {
		b.t.Fatalf("the disks tell: %v\nwant: %v", got, want)
	}
	if b.s == nil {
		return
	}
	want := api.Saved{Area: b.m.area, Epoch: b.m.base, Objects: b.m.objects}
	if s, n := b.s.State(); !sameSaved(s, want) || n != b.m.count {
		b.t.Fatalf("State = %v, %d, want %v, %d", s, n, want, b.m.count)
	}
	if a, f, g := b.s.Disks(); a != b.a || f != field || g != b.g {
		b.t.Fatalf("Disks = %p, %p, %v", a, f, g)
	}
	if !b.m.lost {
		b.list()
		for _, o := range b.m.objects {
			b.stat(o.Key)
		}
	}
}

// asksAll asks for all that a store tells, of these keys and of all that there are.
func (b *both) asksAll(keys ...string) {
	b.t.Helper()
	for _, key := range append(b.m.keys(), keys...) {
		b.get(key)
		b.stat(key)
	}
	b.list()
	b.stands()
}

// What follows is told to both's disks.
func (b *both) disks(tell func(a *array.Array)) {
	tell(b.a)
	tell(b.m.a)
}

func (b *both) crashAfter(writes int) { b.disks(func(a *array.Array) { a.CrashAfter(writes) }) }
func (b *both) restart(keep [][]int)  { b.disks(func(a *array.Array) { a.Restart(keep) }) }

func (b *both) fail(disk int) {
	b.hurt[disk] = true
	b.disks(func(a *array.Array) { a.Fail(disk) })
}

func (b *both) replace(disk int) {
	b.hurt[disk] = true
	b.disks(func(a *array.Array) { a.Replace(disk) })
}

func (b *both) corrupt(disk, place, at int, by byte) {
	b.hurt[disk] = true
	b.disks(func(a *array.Array) { a.Corrupt(disk, place, at, by) })
}

// content is all that a store holds, without the model's being asked: all keys, and the bytes of those that can be read.
func (b *both) content() ([]string, map[string]string) {
	b.t.Helper()
	keys, err := b.s.List()
	b.is("List", "", err, api.OK)
	l := map[string]string{}
	for _, key := range keys {
		switch d, err := b.s.Get(key); err {
		case api.OK:
			l[key] = string(d)
		case api.ErrDamaged:
		default:
			b.t.Fatalf("Get(%.20q) = %d", key, err)
		}
	}
	return keys, l
}

// keepsWord asks, behind a Recover, that what was told OK is there, and what was cut whole or not at all; from then on that is what was told OK. P20.6, W2 and W4.
func (b *both) keepsWord() {
	b.t.Helper()
	keys, got := b.content()
	if len(got) < len(keys) && len(b.hurt) <= b.g.M {
		b.t.Fatalf("of %q only %.200q can be read, though the disks that were hurt are %v", keys, got, b.hurt)
	}
	for _, want := range []map[string]string{b.want, b.cut} {
		if want != nil && slices.Equal(keys, slices.Sorted(maps.Keys(want))) && isPart(got, want) {
			b.want, b.cut = want, nil
			return
		}
	}
	b.t.Fatalf("the store holds %.200q, want %.200q or %.200q", got, b.want, b.cut)
}

// isPart tells whether all of l stands in whole.
func isPart(l, whole map[string]string) bool {
	for key, data := range l {
		if d, is := whole[key]; !is || d != data {
			return false
		}
	}
	return true
}

// fillsUp asks that space that is not held is free: just as many stripes as no object has hold one more object, and no more.
func (b *both) fillsUp() {
	b.t.Helper()
	free := b.g.Stripes
	for _, data := range b.want {
		free -= b.m.needs(len(data))
	}
	if len(b.want) == b.g.Objects {
		b.puts("other", "", api.ErrTooMany)
		return
	}
	b.puts("other", text(free*partOf(b.g)+1, 9), api.ErrNoSpace)
	b.puts("other", text(free*partOf(b.g), 9), api.OK)
	b.gets("other", text(free*partOf(b.g), 9), api.OK)
	b.deletes("other", api.OK)
}
