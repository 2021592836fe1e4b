package commit_test

import (
	"encoding/binary"
	"fmt"
	"hash/crc32"
	"maps"
	"math"
	"reflect"
	"slices"
	"strings"
	"testing"

	"aumbry/api"
	"aumbry/array"
	"aumbry/gf"
)

// The limits, written out: what api says of them is asked for too.
const (
	maxNumber  = 2147483647
	maxBase    = maxNumber - 100
	maxData    = 4096
	maxDisks   = 32
	maxStripes = 256
	maxSlots   = 64
	maxObjects = 64
	maxKey     = 64
)

var field = gf.New()

// example is the chapter's geometry: a part holds 4 bytes, and all parts 16.
var example = api.Geometry{K: 2, M: 1, Size: 2, Stripes: 4, Slots: 2, Objects: 3}

// widest has as many stripes, slots and objects as may be, all of one byte.
var widest = api.Geometry{K: 1, M: 1, Size: 1, Stripes: maxStripes, Slots: maxSlots, Objects: maxObjects}

// geometries are some that may be, both ends of the limits among them.
func geometries() []api.Geometry {
	return []api.Geometry{
		example, widest,
		{K: 1, Size: 1, Stripes: 1, Slots: 1, Objects: 1},
		{K: 1, M: 2, Size: 3, Stripes: 5, Slots: 1, Objects: 2},
		{K: 3, M: 2, Size: 4, Stripes: 7, Slots: 3, Objects: 4},
		{K: 2, M: 30, Size: 1, Stripes: 3, Slots: 2, Objects: 2},
		{K: 31, M: 1, Size: 1, Stripes: 3, Slots: 2, Objects: 2},
		{K: 2, M: 2, Size: maxData, Stripes: 3, Slots: 2, Objects: 3},
	}
}

// badGeometries may not be, for one reason each, and one for all.
func badGeometries() []api.Geometry {
	l := []api.Geometry{{}}
	bad := func(set func(g *api.Geometry, n int), most int, others ...int) {
		for _, n := range append(others, -1, most+1, math.MinInt, math.MaxInt, 1<<32+1) {
			g := example
			set(&g, n)
			l = append(l, g)
		}
	}
	bad(func(g *api.Geometry, n int) { g.K = n }, maxDisks-example.M, 0)
	bad(func(g *api.Geometry, n int) { g.M = n }, maxDisks-example.K)
	bad(func(g *api.Geometry, n int) { g.Size = n }, maxData, 0)
	bad(func(g *api.Geometry, n int) { g.Stripes = n }, maxStripes, 0)
	bad(func(g *api.Geometry, n int) { g.Slots = n }, maxSlots, 0)
	bad(func(g *api.Geometry, n int) { g.Objects = n }, maxObjects, 0)
	return l
}

// Where things lie, by the words of their chapter.
func sizeOf(g api.Geometry) int { return 5 + g.Slots + g.Stripes }

func areaPlace(area, i int) int { return 1 + 2*area + i }

func slotPlace(i int) int { return 5 + i }

func stripePlace(g api.Geometry, i int) int { return 5 + g.Slots + i }

// partOf is how many bytes a part holds.
func partOf(g api.Geometry) int { return g.K * g.Size }

// sectors are what a disk holds, by place.
type sectors map[int]string

// side is all that one disk tells.
type side struct {
	lasts, waits sectors
	live         bool
	births       int
}

// shot is all that disks tell.
type shot struct {
	sides []side
	down  bool
}

// String tells it in plain letters, for those who read why a test failed.
func (s shot) String() string {
	text := fmt.Sprintf("down %v", s.down)
	for i, d := range s.sides {
		text += fmt.Sprintf("\ndisk %d: live %v, births %d", i, d.live, d.births)
		for _, place := range slices.Sorted(maps.Keys(d.lasts)) {
			text += fmt.Sprintf(", %d lasts %.60x", place, d.lasts[place])
		}
		for _, place := range slices.Sorted(maps.Keys(d.waits)) {
			text += fmt.Sprintf(", %d waits %.60x", place, d.waits[place])
		}
	}
	return text
}

func asSectors(list []api.Held) sectors {
	s := sectors{}
	for _, h := range list {
		s[h.Addr] = string(h.B)
	}
	return s
}

func snapshot(a *array.Array) shot {
	live, births := a.Live(), a.Births()
	s := shot{down: a.Down()}
	for i := range live {
		s.sides = append(s.sides, side{asSectors(a.Lasts(i)), asSectors(a.Waits(i)), live[i], births[i]})
	}
	return s
}

// waits are all sectors that wait, of all disks together.
func (s shot) waits() int {
	n := 0
	for _, d := range s.sides {
		n += len(d.waits)
	}
	return n
}

func fresh(t *testing.T, disks, size int) *array.Array {
	t.Helper()
	a, err := array.New(disks, size)
	if err != api.OK {
		t.Fatalf("array.New(%d, %d) = %d", disks, size, err)
	}
	return a
}

// disksOf are new ones for a geometry.
func disksOf(t *testing.T, g api.Geometry) *array.Array {
	t.Helper()
	return fresh(t, g.K+g.M, sizeOf(g))
}

// framed is a sector, made without the program's packages.
func framed(place, epoch int, data string) string {
	b := binary.BigEndian.AppendUint32(nil, uint32(place))
	b = binary.BigEndian.AppendUint32(b, uint32(epoch))
	b = append(b, data...)
	return string(binary.BigEndian.AppendUint32(b, crc32.Checksum(b, crc32.MakeTable(crc32.Castagnoli))))
}

// recordBytes are a record's, by the words of its chapter.
func recordBytes(r api.Record) string {
	b := []byte{byte(r.Kind), byte(len(r.Key))}
	b = append(b, r.Key...)
	b = binary.BigEndian.AppendUint32(b, uint32(r.Length))
	b = binary.BigEndian.AppendUint16(b, uint16(len(r.Stripes)))
	for _, stripe := range r.Stripes {
		b = binary.BigEndian.AppendUint16(b, uint16(stripe))
	}
	return string(b)
}

// savedParts are the data of an area's two sectors.
func savedParts(l []api.Object) [2]string {
	all := string(binary.BigEndian.AppendUint16(nil, uint16(len(l))))
	for _, o := range l {
		all += string(binary.BigEndian.AppendUint32(nil, uint32(o.Epoch)))
		all += recordBytes(putOf(o.Key, o.Length, o.Stripes...))
	}
	n := min(len(all), maxData)
	return [2]string{all[:n], all[n:]}
}

func putOf(key string, length int, stripes ...int) api.Record {
	return api.Record{Kind: 1, Key: key, Length: length, Stripes: stripes}
}

func delOf(key string) api.Record { return api.Record{Kind: 2, Key: key} }

func object(key string, length, epoch int, stripes ...int) api.Object {
	return api.Object{Key: key, Length: length, Epoch: epoch, Stripes: stripes}
}

// sameObject, sameSaved: lists without elements are nil or not.
func sameObject(o, p api.Object) bool {
	return o.Key == p.Key && o.Length == p.Length && o.Epoch == p.Epoch && slices.Equal(o.Stripes, p.Stripes)
}

func sameSaved(s, v api.Saved) bool {
	return s.Area == v.Area && s.Epoch == v.Epoch && slices.EqualFunc(s.Objects, v.Objects, sameObject)
}

// text is so many bytes, unlike those of another seed.
func text(n, seed int) string {
	b := make([]byte, n)
	for i := range b {
		b[i] = byte(i*7 + i>>8 + seed*31 + 1)
	}
	return string(b)
}

// keyOf is the n-th of many that rise.
func keyOf(n int) string { return fmt.Sprintf("k%03d", n) }

// longKey is a key of so many bytes.
func longKey(n int) string { return strings.Repeat("k", n) }

// upTo are the numbers below n.
func upTo(n int) []int {
	var l []int
	for i := range n {
		l = append(l, i)
	}
	return l
}

// The numbers of the sections Types and Errors, as they are written there.
func TestNumbers(t *testing.T) {
	got := []int{api.MaxNumber, api.MaxData, api.MaxDisks, api.MaxStripes, api.MaxSlots, api.MaxObjects, api.MaxKey, api.AreaSectors, api.RPut, api.RDelete,
		int(api.OK), int(api.ErrArg), int(api.ErrConfig), int(api.ErrCrashed), int(api.ErrDamaged), int(api.ErrBadKey), int(api.ErrTooMany), int(api.ErrNoSpace), int(api.ErrNotFound)}
	want := []int{maxNumber, maxData, maxDisks, maxStripes, maxSlots, maxObjects, maxKey, 2, 1, 2, 0, 1, 50, 130, 150, 190, 191, 192, 193}
	if !slices.Equal(got, want) {
		t.Errorf("%d, want %d", got, want)
	}
}

// P20.1 to P20.5: the chapter's examples.
func TestExamples(t *testing.T) {
	b := made(t, example)
	b.puts("a", "hello", api.OK)
	b.gets("a", "hello", api.OK)
	b.stats("a", 5, api.OK)
	b.lists("a")
	b.puts("b", "123456789", api.ErrNoSpace)
	b.gets("b", "", api.ErrNotFound)
	b.deletes("b", api.ErrNotFound)
	b.recovers(api.OK)
	b.gets("a", "hello", api.OK)
}

// W1 to W4: the examples of the whole that ask for no pass.
func TestExamplesOfTheWhole(t *testing.T) {
	begun := func() *both {
		b := made(t, example)
		b.puts("a", "hello", api.OK)
		return b
	}
	b := begun()
	b.puts("", "", api.ErrBadKey)

	b = made(t, example)
	for i, want := range []api.Errno{api.OK, api.OK, api.OK, api.ErrTooMany} {
		b.puts("abcd"[i:i+1], "", want)
	}

	b = begun()
	b.crashAfter(2)
	b.puts("a", "x", api.ErrCrashed)
	b.restart(nil)
	b.recovers(api.OK)
	b.gets("a", "hello", api.OK)

	b = begun()
	b.crashAfter(9)
	b.puts("a", "x", api.OK)

	b = begun()
	b.fail(0)
	b.gets("a", "hello", api.OK)
	b.fail(1)
	b.gets("a", "", api.ErrDamaged)

	b = begun()
	b.replace(0)
	b.fail(1)
	b.recovers(api.OK)
	b.gets("a", "", api.ErrDamaged)

	b = begun()
	b.corrupt(2, 7, 0, 1)
	b.gets("a", "hello", api.OK)

	b = begun()
	b.deletes("a", api.OK)
	b.recovers(api.OK)
	b.lists()
	b.puts("b", text(16, 1), api.OK)
}

// sameShot tells whether disks tell the same.
func sameShot(s, v shot) bool { return reflect.DeepEqual(s, v) }
