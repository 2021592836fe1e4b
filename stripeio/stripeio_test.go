package stripeio_test

import (
	"encoding/binary"
	"fmt"
	"hash/crc32"
	"maps"
	"math"
	"reflect"
	"slices"
	"testing"

	"aumbry/api"
	"aumbry/array"
	"aumbry/bulk"
	"aumbry/gf"
	"aumbry/stripeio"
)

// The limits, written out: what api says of them is asked for too.
const (
	maxNumber = 2147483647
	maxData   = 4096
	fixed     = 5 // a label, and two areas of two sectors
	frame     = 12
)

// Some geometries: the chapter's, one with more parity, and both ends of what may be.
var (
	example = api.Geometry{K: 2, M: 1, Size: 1, Stripes: 2, Slots: 1, Objects: 1}
	sturdy  = api.Geometry{K: 2, M: 3, Size: 4, Stripes: 7, Slots: 2, Objects: 3}
	least   = api.Geometry{K: 1, M: 0, Size: 1, Stripes: 1, Slots: 1, Objects: 1}
	widest  = api.Geometry{K: 20, M: 12, Size: 3, Stripes: 256, Slots: 64, Objects: 64}
	longest = api.Geometry{K: 2, M: 2, Size: maxData, Stripes: 3, Slots: 1, Objects: 1}
)

func geometries() []api.Geometry {
	return []api.Geometry{
		example, sturdy, least, widest, longest,
		{K: 3, M: 2, Size: 2, Stripes: 6, Slots: 3, Objects: 1},
		{K: 4, M: 0, Size: 5, Stripes: 9, Slots: 2, Objects: 1},
		{K: 1, M: 4, Size: 7, Stripes: 5, Slots: 64, Objects: 2},
		{K: 32, M: 0, Size: 2, Stripes: 40, Slots: 1, Objects: 1},
		{K: 1, M: 31, Size: 2, Stripes: 40, Slots: 1, Objects: 1},
	}
}

// sectors are what a disk holds, by place.
type sectors map[int]string

// side is all that one disk tells.
type side struct {
	lasts, waits sectors
	live         bool
	births       int
}

// shot is all that disks tell.
type shot struct {
	sides []side
	down  bool
}

// String tells it in plain letters, for those who read why a test failed.
func (s shot) String() string {
	text := fmt.Sprintf("down %v", s.down)
	for i, d := range s.sides {
		text += fmt.Sprintf("\ndisk %d: live %v, births %d", i, d.live, d.births)
		for _, place := range slices.Sorted(maps.Keys(d.lasts)) {
			text += fmt.Sprintf(", %d lasts %.40x", place, d.lasts[place])
		}
		for _, place := range slices.Sorted(maps.Keys(d.waits)) {
			text += fmt.Sprintf(", %d waits %.40x", place, d.waits[place])
		}
	}
	return text
}

func asSectors(list []api.Held) sectors {
	s := sectors{}
	for _, h := range list {
		s[h.Addr] = string(h.B)
	}
	return s
}

func snapshot(a *array.Array) shot {
	live, births := a.Live(), a.Births()
	s := shot{down: a.Down()}
	for i := range live {
		s.sides = append(s.sides, side{asSectors(a.Lasts(i)), asSectors(a.Waits(i)), live[i], births[i]})
	}
	return s
}

// newest is what is read at a place.
func (s side) newest(place int) string {
	if b, waits := s.waits[place]; waits {
		return b
	}
	return s.lasts[place]
}

// holds asks that disks tell just that.
func holds(t *testing.T, what string, a *array.Array, want shot) {
	t.Helper()
	if got := snapshot(a); !reflect.DeepEqual(got, want) {
		t.Fatalf("%s: the disks tell: %v\nwant: %v", what, got, want)
	}
}

// world is disks, and a geometry.
type world struct {
	t *testing.T
	a *array.Array
	f *gf.Field
	g api.Geometry
}

// fresh is a world of as many disks and sectors as the geometry has.
func fresh(t *testing.T, g api.Geometry) world {
	t.Helper()
	return sized(t, g, g.K+g.M, fixed+g.Slots+g.Stripes)
}

func sized(t *testing.T, g api.Geometry, disks, size int) world {
	t.Helper()
	a, err := array.New(disks, size)
	if err != api.OK {
		t.Fatalf("array.New(%d, %d) = %d", disks, size, err)
	}
	return world{t, a, gf.New(), g}
}

// on is the disk of a shard, place that of a stripe: as the chapter of layout says.
func on(g api.Geometry, stripe, shard int) int {
	return (shard + stripe) % (g.K + g.M)
}

func placeOf(g api.Geometry, stripe int) int {
	return fixed + g.Slots + stripe
}

// framed is a sector, made without the program's packages.
func framed(place, epoch int, data []byte) []byte {
	b := binary.BigEndian.AppendUint32(nil, uint32(place))
	b = binary.BigEndian.AppendUint32(b, uint32(epoch))
	b = append(b, data...)
	return binary.BigEndian.AppendUint32(b, crc32.Checksum(b, crc32.MakeTable(crc32.Castagnoli)))
}

// someBytes are bytes that hang on a seed.
func someBytes(n, seed int) []byte {
	b := make([]byte, n)
	x := uint32(seed)*2654435761 + 12345
	for i := range b {
		x = x*1664525 + 1013904223
		b[i] = byte(x >> 24)
	}
	return b
}

func someData(g api.Geometry, seed int) []byte {
	return someBytes(g.K*g.Size, seed)
}

// encoded are all shards of data.
func encoded(t *testing.T, g api.Geometry, data []byte) [][]byte {
	t.Helper()
	shards, err := bulk.Encode(gf.New(), g.K, g.M, slices.Collect(slices.Chunk(data, g.Size)))
	if err != api.OK {
		t.Fatalf("bulk.Encode: %d", err)
	}
	return shards
}

// packed are all sectors of data, by the shards' numbers.
func packed(t *testing.T, g api.Geometry, stripe, epoch int, data []byte) []string {
	t.Helper()
	var all []string
	for _, shard := range encoded(t, g, data) {
		all = append(all, string(framed(placeOf(g, stripe), epoch, shard)))
	}
	return all
}

// writes asks Write for an answer.
func (w world) writes(stripe, epoch int, data []byte, want api.Errno) {
	w.t.Helper()
	if err := stripeio.Write(w.a, w.f, w.g, stripe, epoch, data); err != want {
		w.t.Fatalf("Write(%d, %d, %d bytes) of %+v = %d, want %d", stripe, epoch, len(data), w.g, err, want)
	}
}

// reads asks Read for data and the bad shards, and that it leaves all as it was.
func (w world) reads(stripe, epoch int, data []byte, bad ...int) {
	w.t.Helper()
	before := snapshot(w.a)
	got, told, err := stripeio.Read(w.a, w.f, w.g, stripe, epoch)
	if err != api.OK || !slices.Equal(got, data) || !slices.Equal(told, bad) {
		w.t.Fatalf("Read(%d, %d) of %+v = %.60v, %v, %d, want %.60v, %v", stripe, epoch, w.g, got, told, err, data, bad)
	}
	holds(w.t, "behind Read", w.a, before)
}

// fails asks Read and Fix for an error, zero values beside it, and that they leave all as it was.
func (w world) fails(stripe, epoch int, want api.Errno) {
	w.t.Helper()
	before := snapshot(w.a)
	data, bad, err := stripeio.Read(w.a, w.f, w.g, stripe, epoch)
	if err != want || len(data) != 0 || len(bad) != 0 {
		w.t.Fatalf("Read(%d, %d) of %+v = %.60v, %v, %d, want %d", stripe, epoch, w.g, data, bad, err, want)
	}
	n, err := stripeio.Fix(w.a, w.f, w.g, stripe, epoch)
	if err != want || n != 0 {
		w.t.Fatalf("Fix(%d, %d) of %+v = %d, %d, want %d", stripe, epoch, w.g, n, err, want)
	}
	holds(w.t, "behind calls that fail", w.a, before)
}

// fixes asks Fix for how many it writes.
func (w world) fixes(stripe, epoch, want int) {
	w.t.Helper()
	if n, err := stripeio.Fix(w.a, w.f, w.g, stripe, epoch); err != api.OK || n != want {
		w.t.Fatalf("Fix(%d, %d) of %+v = %d, %d, want %d", stripe, epoch, w.g, n, err, want)
	}
}

// flushes lets all last.
func (w world) flushes() {
	w.t.Helper()
	if err := w.a.Flush(); err != api.OK {
		w.t.Fatalf("Flush() = %d", err)
	}
}

// lays writes bytes where a shard lies, past stripeio.
func (w world) lays(stripe, shard int, b []byte) {
	w.t.Helper()
	if err := w.a.Write(on(w.g, stripe, shard), placeOf(w.g, stripe), b); err != api.OK {
		w.t.Fatalf("a shard can't be laid: %d", err)
	}
}

// lies is what lies where a shard does.
func (w world) lies(stripe, shard int) []byte {
	w.t.Helper()
	b, err := w.a.Read(on(w.g, stripe, shard), placeOf(w.g, stripe))
	if err != api.OK {
		w.t.Fatalf("a shard can't be read: %d", err)
	}
	return b
}

// forges makes a shard wrong at a place of its bytes, with a check sum that is right.
func (w world) forges(stripe, epoch, shard, at int) {
	w.t.Helper()
	b := w.lies(stripe, shard)
	data := slices.Clone(b[8 : len(b)-4])
	data[at] ^= byte(17*shard + 3*at + 1)
	w.lays(stripe, shard, framed(placeOf(w.g, stripe), epoch, data))
}

// dies lets a shard's disk fail.
func (w world) dies(stripe, shard int) {
	w.t.Helper()
	if err := w.a.Fail(on(w.g, stripe, shard)); err != api.OK {
		w.t.Fatalf("Fail: %d", err)
	}
}

// renews puts a new disk in the place of a shard's.
func (w world) renews(stripe, shard int) {
	w.t.Helper()
	if err := w.a.Replace(on(w.g, stripe, shard)); err != api.OK {
		w.t.Fatalf("Replace: %d", err)
	}
}

// chosen are the shards whose bits are set.
func chosen(bits, shards int) []int {
	var list []int
	for i := range shards {
		if bits>>i&1 == 1 {
			list = append(list, i)
		}
	}
	return list
}

// The section Errors, and the limits that the chapter names.
func TestNumbers(t *testing.T) {
	got := [...]api.Errno{api.OK, api.ErrArg, api.ErrConfig, api.ErrCrashed, api.ErrDamaged}
	if got != [...]api.Errno{0, 1, 50, 130, 150} {
		t.Errorf("errors are %v", got)
	}
	if api.MaxNumber != maxNumber || api.MaxData != maxData || maxNumber != math.MaxInt32 {
		t.Errorf("limits are %d and %d", api.MaxNumber, api.MaxData)
	}
	w := fresh(t, example)
	if err := stripeio.Write(nil, w.f, w.g, 0, 0, []byte{1, 2}); err != 1 {
		t.Errorf("%d", err)
	}
	if err := stripeio.Write(w.a, w.f, api.Geometry{}, 0, 0, []byte{1, 2}); err != 50 {
		t.Errorf("%d", err)
	}
	if _, _, err := stripeio.Read(w.a, w.f, w.g, 0, 0); err != 150 {
		t.Errorf("%d", err)
	}
	w.a.CrashAfter(0)
	if err := stripeio.Write(w.a, w.f, w.g, 0, 0, []byte{1, 2}); err != 130 {
		t.Errorf("%d", err)
	}
}

// The chapter's examples, whichever disk fails.
func TestExamples(t *testing.T) {
	for disk := range 3 {
		w := sized(t, example, 3, 8)
		w.writes(1, 5, []byte{7, 9}, api.OK)
		w.reads(1, 5, []byte{7, 9})
		w.fails(1, 4, api.ErrDamaged)
		w.a.Fail(disk)
		w.a.Replace(disk)
		w.reads(1, 5, []byte{7, 9}, (disk+2)%3)
		w.fixes(1, 5, 1)
		w.reads(1, 5, []byte{7, 9})
	}
}

// P15.2: the bytes of the chapter's example, one by one: the shards of (1, 2) are 1, 2 and 123.
func TestExampleBytes(t *testing.T) {
	w := fresh(t, example)
	w.writes(1, 0x01020304, []byte{1, 2}, api.OK)
	for disk, shard := range []byte{123, 1, 2} {
		list := w.a.Waits(disk)
		if len(list) != 1 || list[0].Addr != 7 || len(list[0].B) != 13 || len(w.a.Lasts(disk)) != 0 {
			t.Fatalf("disk %d has %v", disk, list)
		}
		if got := list[0].B[:9]; !slices.Equal(got, []byte{0, 0, 0, 7, 1, 2, 3, 4, shard}) {
			t.Errorf("disk %d has %v", disk, got)
		}
	}
}
