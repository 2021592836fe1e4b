package catalog_test

import (
	"cmp"
	"fmt"
	"math"
	"slices"
	"strings"
	"testing"

	"aumbry/api"
	"aumbry/catalog"
)

// The limits, written out: what api says of them is asked for too.
const (
	put        = 1
	del        = 2
	maxKey     = 64
	maxNumber  = 2147483647
	maxStripes = 256
	maxObjects = 64
)

// example is the chapter's geometry: a stripe holds 2 bytes.
var example = api.Geometry{K: 1, Size: 2, Stripes: 3, Slots: 1, Objects: 2}

// greatest is the one at the upper end of all limits; single has all stripes and objects, each stripe of one byte.
var (
	greatest = api.Geometry{K: 32, Size: 4096, Stripes: maxStripes, Slots: 64, Objects: maxObjects}
	single   = api.Geometry{K: 1, M: 1, Size: 1, Stripes: maxStripes, Slots: 1, Objects: maxObjects}
)

// geometries are some that may be, both ends of the limits among them.
func geometries() []api.Geometry {
	return []api.Geometry{
		example, greatest, single,
		{K: 1, Size: 1, Stripes: 1, Slots: 1, Objects: 1},
		{K: 2, M: 1, Size: 2, Stripes: 4, Slots: 2, Objects: 3},
		{K: 3, M: 2, Size: 7, Stripes: 11, Slots: 5, Objects: 4},
		{K: 1, M: 31, Size: 4096, Stripes: 9, Slots: 64, Objects: 64},
		{K: 16, M: 16, Size: 1, Stripes: 64, Slots: 3, Objects: 1},
		{K: 1, Size: 3, Stripes: 2, Slots: 1, Objects: 5},
	}
}

// badGeometries may not be, for one reason each, and one for all.
func badGeometries() []api.Geometry {
	var l []api.Geometry
	for _, set := range []func(g *api.Geometry, n int){
		func(g *api.Geometry, n int) { g.K = n },
		func(g *api.Geometry, n int) { g.Size = n },
		func(g *api.Geometry, n int) { g.Stripes = n },
		func(g *api.Geometry, n int) { g.Slots = n },
		func(g *api.Geometry, n int) { g.Objects = n },
	} {
		for _, n := range []int{0, -1, 4097, math.MinInt, math.MaxInt, 1<<32 + 1} {
			g := example
			set(&g, n)
			l = append(l, g)
		}
	}
	return append(l, api.Geometry{},
		api.Geometry{K: 1, M: -1, Size: 2, Stripes: 3, Slots: 1, Objects: 2},
		api.Geometry{K: 1, M: 32, Size: 2, Stripes: 3, Slots: 1, Objects: 2},
		api.Geometry{K: 33, M: 0, Size: 2, Stripes: 3, Slots: 1, Objects: 2},
		api.Geometry{K: 1, Size: 2, Stripes: 257, Slots: 1, Objects: 2},
		api.Geometry{K: 1, Size: 2, Stripes: 3, Slots: 65, Objects: 2},
		api.Geometry{K: 1, Size: 2, Stripes: 3, Slots: 1, Objects: 65},
	)
}

// run are n stripes, from one on, rising.
func run(from, n int) []int {
	l := make([]int, n)
	for i := range l {
		l[i] = from + i
	}
	return l
}

// object is one by its parts.
func object(key string, length, epoch int, stripes ...int) api.Object {
	return api.Object{Key: key, Length: length, Epoch: epoch, Stripes: stripes}
}

// putOf and delOf are records.
func putOf(key string, length int, stripes ...int) api.Record {
	return api.Record{Kind: put, Key: key, Length: length, Stripes: stripes}
}

func delOf(key string) api.Record {
	return api.Record{Kind: del, Key: key}
}

// key is the n-th of many that rise.
func key(n int) string {
	return fmt.Sprintf("key%04d", n)
}

// keyed are n objects without bytes, their keys rising.
func keyed(n int) []api.Object {
	var l []api.Object
	for i := range n {
		l = append(l, object(key(i), 0, i))
	}
	return l
}

// model is a catalog by the chapter's words: a list of objects, each of which is asked for all.
type model struct {
	g api.Geometry
	l []api.Object
}

// at is the place of the object of a key; -1: there is none.
func (m *model) at(key string) int {
	return slices.IndexFunc(m.l, func(o api.Object) bool { return o.Key == key })
}

// owner is the epoch of the object that has a stripe.
func (m *model) owner(stripe int) (int, bool) {
	for _, o := range m.l {
		for _, has := range o.Stripes {
			if has == stripe {
				return o.Epoch, true
			}
		}
	}
	return 0, false
}

// free are all free stripes.
func (m *model) free() []int {
	var l []int
	for stripe := 0; stripe <= m.g.Stripes-1; stripe++ {
		if _, is := m.owner(stripe); !is {
			l = append(l, stripe)
		}
	}
	return l
}

// needs is layout.Needs, counted in stripes.
func (m *model) needs(length int) int {
	n := length / (m.g.K * m.g.Size)
	if length%(m.g.K*m.g.Size) > 0 {
		n++
	}
	return n
}

// isRecord is record.Check, by its chapter's words.
func isRecord(r api.Record) bool {
	may := r.Kind == put || r.Kind == del && r.Length == 0 && len(r.Stripes) == 0
	may = may && len(r.Key) > 0 && len(r.Key) <= maxKey
	may = may && r.Length >= 0 && r.Length <= maxNumber && len(r.Stripes) <= maxStripes
	return may && !slices.ContainsFunc(r.Stripes, func(stripe int) bool { return stripe < 0 || stripe > maxStripes-1 })
}

// fits tells whether an object does (P19.1).
func (m *model) fits(o api.Object) bool {
	if !isRecord(putOf(o.Key, o.Length, o.Stripes...)) || o.Epoch < 0 || o.Epoch > maxNumber || len(o.Stripes) != m.needs(o.Length) {
		return false
	}
	free := m.free()
	for i, stripe := range o.Stripes {
		if slices.Contains(o.Stripes[:i], stripe) || !slices.Contains(free, stripe) {
			return false
		}
	}
	return true
}

// modelOf is P19.1's New of a geometry that may be; nil: ErrArg.
func modelOf(g api.Geometry, l []api.Object) *model {
	m := &model{g: g}
	if len(l) > g.Objects {
		return nil
	}
	for _, o := range l {
		if m.at(o.Key) >= 0 || !m.fits(o) {
			return nil
		}
		m.l = append(m.l, ownObject(o))
	}
	return m
}

// plan is P19.2.
func (m *model) plan(key string, length int) ([]int, api.Errno) {
	free := m.free()
	switch {
	case key == "" || len(key) > maxKey:
		return nil, api.ErrBadKey
	case length < 0 || length > maxNumber:
		return nil, api.ErrArg
	case m.at(key) < 0 && len(m.l) == m.g.Objects:
		return nil, api.ErrTooMany
	case len(free) < m.needs(length):
		return nil, api.ErrNoSpace
	}
	return free[:m.needs(length)], api.OK
}

// apply is P19.3.
func (m *model) apply(r api.Record, epoch int) api.Errno {
	at := m.at(r.Key)
	o := ownObject(object(r.Key, r.Length, epoch, r.Stripes...))
	switch {
	case !isRecord(r):
		return api.ErrArg
	case r.Kind == del && at < 0:
		return api.ErrNotFound
	case r.Kind == del:
		m.l = append(slices.Clone(m.l[:at]), m.l[at+1:]...)
	case at < 0 && len(m.l) == m.g.Objects:
		return api.ErrTooMany
	case !m.fits(o):
		return api.ErrArg
	case at < 0:
		m.l = append(m.l, o)
	default:
		m.l[at] = o
	}
	return api.OK
}

// all are the objects by their keys.
func (m *model) all() []api.Object {
	return slices.SortedFunc(slices.Values(m.l), func(a, b api.Object) int { return cmp.Compare(a.Key, b.Key) })
}

// ownObject is an object in memory of its own.
func ownObject(o api.Object) api.Object {
	o.Key, o.Stripes = strings.Clone(o.Key), slices.Clone(o.Stripes)
	return o
}

// ownObjects are objects in memory of their own.
func ownObjects(l []api.Object) []api.Object {
	l = slices.Clone(l)
	for i := range l {
		l[i] = ownObject(l[i])
	}
	return l
}

// same tells whether two objects are one; no stripes may be nil or not.
func same(a, b api.Object) bool {
	return a.Key == b.Key && a.Length == b.Length && a.Epoch == b.Epoch && slices.Equal(a.Stripes, b.Stripes)
}

func sameAll(a, b []api.Object) bool {
	return slices.EqualFunc(a, b, same)
}

// short tells an object, or a record, as far as it is of use.
func short(key string, length, number int, stripes []int) string {
	return fmt.Sprintf("%.8q of %d bytes, length %d, %d, %d stripes: %d", key, len(key), length, number, len(stripes), stripes[:min(len(stripes), 6)])
}

// both are a catalog and its model, which are told the same.
type both struct {
	t *testing.T
	c *catalog.Catalog
	m *model
}

// opened asks New for what P19.1 says of a geometry that may be; nil: both tell ErrArg.
func opened(t *testing.T, g api.Geometry, l []api.Object) *both {
	t.Helper()
	m := modelOf(g, l)
	c, err := catalog.New(g, l)
	if m == nil {
		if c != nil || err != api.ErrArg {
			t.Fatalf("New(%+v, %d objects) = %p, %d, want ErrArg", g, len(l), c, err)
		}
		return nil
	}
	if c == nil || err != api.OK {
		t.Fatalf("New(%+v, %d objects) = %p, %d, want OK", g, len(l), c, err)
	}
	b := &both{t, c, m}
	b.stands()
	return b
}

// made is opened of what may be.
func made(t *testing.T, g api.Geometry, l ...api.Object) *both {
	t.Helper()
	b := opened(t, g, l)
	if b == nil {
		t.Fatalf("New(%+v, %d objects): ErrArg", g, len(l))
	}
	return b
}

// stands asks for all that a catalog tells of what it holds (P19.4).
func (b *both) stands() {
	b.t.Helper()
	if got, want := b.c.All(), b.m.all(); !sameAll(got, want) {
		b.t.Fatalf("All() = %v, want %v", got, want)
	}
	if got, want := b.c.Free(), len(b.m.free()); got != want {
		b.t.Fatalf("Free() = %d, want %d", got, want)
	}
	for stripe := -2; stripe <= b.m.g.Stripes+2; stripe++ {
		b.owner(stripe)
	}
	for _, o := range b.m.l {
		b.get(o.Key)
	}
}

// get asks for P19.4's object.
func (b *both) get(key string) {
	b.t.Helper()
	var want api.Object
	wantErr := api.ErrNotFound
	if at := b.m.at(key); at >= 0 {
		want, wantErr = b.m.l[at], api.OK
	}
	if got, err := b.c.Get(key); err != wantErr || !same(got, want) {
		b.t.Fatalf("Get(%.8q) = %v, %d, want %v, %d", key, got, err, want, wantErr)
	}
}

// owner asks for P19.4's epoch.
func (b *both) owner(stripe int) {
	b.t.Helper()
	want, wantIs := b.m.owner(stripe)
	if got, is := b.c.Owner(stripe); got != want || is != wantIs {
		b.t.Fatalf("Owner(%d) = %d, %v, want %d, %v", stripe, got, is, want, wantIs)
	}
}

// plan asks for P19.2's stripes.
func (b *both) plan(key string, length int) ([]int, api.Errno) {
	b.t.Helper()
	want, wantErr := b.m.plan(key, length)
	got, err := b.c.Plan(key, length)
	if err != wantErr || !slices.Equal(got, want) {
		b.t.Fatalf("Plan(%.8q of %d bytes, %d) = %d, %d, want %d, %d", key, len(key), length, got, err, want, wantErr)
	}
	return got, err
}

// plans is plan of what is known.
func (b *both) plans(key string, length int, want []int, wantErr api.Errno) {
	b.t.Helper()
	if got, err := b.plan(key, length); err != wantErr || !slices.Equal(got, want) {
		b.t.Fatalf("Plan(%.8q of %d bytes, %d) = %d, %d, the test's own: %d, %d", key, len(key), length, got, err, want, wantErr)
	}
}

// apply asks for P19.3's answer, and for what stands behind it.
func (b *both) apply(r api.Record, epoch int) api.Errno {
	b.t.Helper()
	want := b.m.apply(r, epoch)
	if err := b.c.Apply(r, epoch); err != want {
		b.t.Fatalf("Apply(kind %d, %s, %d) = %d, want %d", r.Kind, short(r.Key, r.Length, epoch, r.Stripes), epoch, err, want)
	}
	b.stands()
	b.get(r.Key)
	return want
}

// applies is apply of what is known.
func (b *both) applies(r api.Record, epoch int, want api.Errno) {
	b.t.Helper()
	if err := b.apply(r, epoch); err != want {
		b.t.Fatalf("Apply(kind %d, %s, %d) = %d, the test's own: %d", r.Kind, short(r.Key, r.Length, epoch, r.Stripes), epoch, err, want)
	}
}

// holds asks for just these objects.
func (b *both) holds(want ...api.Object) {
	b.t.Helper()
	b.stands()
	if got := b.c.All(); !sameAll(got, want) {
		b.t.Fatalf("All() = %v, the test's own: %v", got, want)
	}
}

// The sections Types and Errors, and the limits that the chapter names.
func TestNumbers(t *testing.T) {
	got := [...]api.Errno{api.OK, api.ErrArg, api.ErrConfig, api.ErrBadKey, api.ErrTooMany, api.ErrNoSpace, api.ErrNotFound}
	if got != [...]api.Errno{0, 1, 50, 190, 191, 192, 193} {
		t.Errorf("errors are %d", got)
	}
	limits := [...]int{api.MaxKey, api.MaxNumber, api.MaxStripes, api.MaxObjects, api.RPut, api.RDelete}
	if limits != [...]int{maxKey, maxNumber, maxStripes, maxObjects, put, del} {
		t.Errorf("limits are %d", limits)
	}
	c := made(t, example, object("a", 3, 1, 0, 1), object("b", 0, 2)).c
	_, config := catalog.New(api.Geometry{}, nil)
	_, wrong := catalog.New(example, []api.Object{{}})
	_, badKey := c.Plan("", 0)
	_, wrongLength := c.Plan("a", -1)
	_, tooMany := c.Plan("c", 0)
	_, noSpace := c.Plan("a", 3)
	_, notFound := c.Get("c")
	told := [...]api.Errno{config, wrong, badKey, wrongLength, tooMany, noSpace, notFound, c.Apply(delOf("c"), 0), c.Apply(putOf("c", 0), 0), c.Apply(delOf(""), 0)}
	if told != [...]api.Errno{50, 1, 190, 1, 191, 192, 193, 193, 191, 1} {
		t.Errorf("told are %d", told)
	}
}

// The chapter's examples.
func TestExamples(t *testing.T) {
	b := made(t, example)
	b.plans("a", 3, []int{0, 1}, api.OK)
	b.applies(putOf("a", 3, 0, 1), 1, api.OK)
	if n := b.c.Free(); n != 1 {
		t.Errorf("Free() = %d", n)
	}
	b.plans("a", 3, nil, api.ErrNoSpace)
	b.plans("b", 2, []int{2}, api.OK)
	b.plans("", 0, nil, api.ErrBadKey)
	b.applies(putOf("b", 2, 1), 2, api.ErrArg)
	b.applies(delOf("c"), 2, api.ErrNotFound)
	b.holds(object("a", 3, 1, 0, 1))
}
