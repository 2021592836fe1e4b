package metalog_test

import (
	"encoding/binary"
	"fmt"
	"hash/crc32"
	"maps"
	"reflect"
	"slices"
	"strings"
	"testing"

	"aumbry/api"
	"aumbry/array"
	"aumbry/metalog"
)

// The limits, written out: what api says of them is asked for too.
const (
	maxNumber  = 2147483647
	maxBase    = maxNumber - 100
	maxData    = 4096
	maxDisks   = 32
	maxSlots   = 64
	maxObjects = 64
	maxStripes = 256
	maxKey     = 64
)

// slots is a geometry of so many slots, the rest of which no call asks anything of.
func slots(n int) api.Geometry {
	return api.Geometry{K: 1, M: 1, Size: 1, Stripes: 2, Slots: n, Objects: 2}
}

// sizeOf is how many sectors each disk of a geometry has.
func sizeOf(g api.Geometry) int {
	return 5 + g.Slots + g.Stripes
}

// areaPlace is where a sector of an area lies, slotPlace where a slot does.
func areaPlace(area, i int) int { return 1 + 2*area + i }

func slotPlace(i int) int { return 5 + i }

// sectors are what a disk holds, by place.
type sectors map[int]string

// side is all that one disk tells.
type side struct {
	lasts, waits sectors
	live         bool
	births       int
}

// shot is all that disks tell.
type shot struct {
	sides []side
	down  bool
}

// String tells it in plain letters, for those who read why a test failed.
func (s shot) String() string {
	text := fmt.Sprintf("down %v", s.down)
	for i, d := range s.sides {
		text += fmt.Sprintf("\ndisk %d: live %v, births %d", i, d.live, d.births)
		for _, place := range slices.Sorted(maps.Keys(d.lasts)) {
			text += fmt.Sprintf(", %d lasts %.60x", place, d.lasts[place])
		}
		for _, place := range slices.Sorted(maps.Keys(d.waits)) {
			text += fmt.Sprintf(", %d waits %.60x", place, d.waits[place])
		}
	}
	return text
}

func asSectors(list []api.Held) sectors {
	s := sectors{}
	for _, h := range list {
		s[h.Addr] = string(h.B)
	}
	return s
}

func snapshot(a *array.Array) shot {
	live, births := a.Live(), a.Births()
	s := shot{down: a.Down()}
	for i := range live {
		s.sides = append(s.sides, side{asSectors(a.Lasts(i)), asSectors(a.Waits(i)), live[i], births[i]})
	}
	return s
}

// holds asks that disks tell just that.
func holds(t *testing.T, what string, a *array.Array, want shot) {
	t.Helper()
	if got := snapshot(a); !reflect.DeepEqual(got, want) {
		t.Fatalf("%s: the disks tell: %v\nwant: %v", what, got, want)
	}
}

func fresh(t *testing.T, disks, size int) *array.Array {
	t.Helper()
	a, err := array.New(disks, size)
	if err != api.OK {
		t.Fatalf("array.New(%d, %d) = %d", disks, size, err)
	}
	return a
}

// framed is a sector, made without the program's packages.
func framed(place, epoch int, data string) string {
	b := binary.BigEndian.AppendUint32(nil, uint32(place))
	b = binary.BigEndian.AppendUint32(b, uint32(epoch))
	b = append(b, data...)
	return string(binary.BigEndian.AppendUint32(b, crc32.Checksum(b, crc32.MakeTable(crc32.Castagnoli))))
}

// unframed is what a sector of a place holds, by the same words.
func unframed(place int, b string) (epoch int, data string, is bool) {
	if len(b) < 12 || len(b) > maxData+12 {
		return 0, "", false
	}
	n := binary.BigEndian.Uint32([]byte(b[4:]))
	data = b[8 : len(b)-4]
	if n > maxNumber || framed(place, int(n), data) != b {
		return 0, "", false
	}
	return int(n), data, true
}

// labelled is what lies on a disk that knows.
func labelled() string { return framed(0, 0, "L") }

// recordBytes are a record's, by the words of its chapter.
func recordBytes(r api.Record) string {
	b := []byte{byte(r.Kind), byte(len(r.Key))}
	b = append(b, r.Key...)
	b = binary.BigEndian.AppendUint32(b, uint32(r.Length))
	b = binary.BigEndian.AppendUint16(b, uint16(len(r.Stripes)))
	for _, stripe := range r.Stripes {
		b = binary.BigEndian.AppendUint16(b, uint16(stripe))
	}
	return string(b)
}

// savedParts are the data of an area's two sectors.
func savedParts(l []api.Object) [2]string {
	all := string(binary.BigEndian.AppendUint16(nil, uint16(len(l))))
	for _, o := range l {
		all += string(binary.BigEndian.AppendUint32(nil, uint32(o.Epoch)))
		all += recordBytes(api.Record{Kind: 1, Key: o.Key, Length: o.Length, Stripes: o.Stripes})
	}
	n := min(len(all), maxData)
	return [2]string{all[:n], all[n:]}
}

func put(key string, length int, stripes ...int) api.Record {
	return api.Record{Kind: 1, Key: key, Length: length, Stripes: stripes}
}

func del(key string) api.Record { return api.Record{Kind: 2, Key: key} }

func object(key string, length, epoch int, stripes ...int) api.Object {
	return api.Object{Key: key, Length: length, Epoch: epoch, Stripes: stripes}
}

func checkpoint(area, epoch int, l ...api.Object) api.Saved {
	return api.Saved{Area: area, Epoch: epoch, Objects: l}
}

// manyObjects are n, with keys of so many bytes and some stripes, which rise.
func manyObjects(n, key, stripes int) []api.Object {
	var l []api.Object
	for i := range n {
		o := object(fmt.Sprintf("%02d", i)+strings.Repeat("k", key-2), i*i, maxNumber-i)
		for range stripes {
			o.Stripes = append(o.Stripes, (7*i+len(o.Stripes))%maxStripes)
		}
		l = append(l, o)
	}
	return l
}

// lays writes bytes at a place of a disk, past metalog.
func lays(t *testing.T, a *array.Array, disk, place int, b string) {
	t.Helper()
	if err := a.Write(disk, place, []byte(b)); err != api.OK {
		t.Fatalf("Write(%d, %d, %.40x) = %d", disk, place, b, err)
	}
}

// laysAll writes a sector to all disks, past metalog.
func laysAll(t *testing.T, a *array.Array, place, epoch int, data string) {
	t.Helper()
	for disk := range a.Live() {
		lays(t, a, disk, place, framed(place, epoch, data))
	}
}

func flushes(t *testing.T, a *array.Array) {
	t.Helper()
	if err := a.Flush(); err != api.OK {
		t.Fatalf("Flush() = %d", err)
	}
}

// spoils changes a byte at a place of a disk.
func spoils(t *testing.T, a *array.Array, disk, place, at int) {
	t.Helper()
	if err := a.Corrupt(disk, place, at, 0x10); err != api.OK {
		t.Fatalf("Corrupt(%d, %d, %d) = %d", disk, place, at, err)
	}
}

// upTo are the numbers below n.
func upTo(n int) []int {
	var l []int
	for i := range n {
		l = append(l, i)
	}
	return l
}

// chosen are the numbers below n whose bits are set.
func chosen(bits, n int) []int {
	return slices.DeleteFunc(upTo(n), func(i int) bool { return bits>>i&1 == 0 })
}

// knowing is a list of so many disks, all of which know.
func knowing(disks int) []bool {
	return slices.Repeat([]bool{true}, disks)
}

// sameRecord, sameObject: lists without elements are nil or not.
func sameRecord(r, s api.Record) bool {
	return r.Kind == s.Kind && r.Key == s.Key && r.Length == s.Length && slices.Equal(r.Stripes, s.Stripes)
}

func sameObject(o, p api.Object) bool {
	return o.Key == p.Key && o.Length == p.Length && o.Epoch == p.Epoch && slices.Equal(o.Stripes, p.Stripes)
}

func sameSaved(s, v api.Saved) bool {
	return s.Area == v.Area && s.Epoch == v.Epoch && slices.EqualFunc(s.Objects, v.Objects, sameObject)
}

func labels(t *testing.T, a *array.Array, disks []int, want api.Errno) {
	t.Helper()
	if err := metalog.Label(a, disks); err != want {
		t.Fatalf("Label(%v) = %d, want %d", disks, err, want)
	}
}

// knows asks Knows, and that it leaves all as it was.
func knows(t *testing.T, a *array.Array, want ...bool) {
	t.Helper()
	before := snapshot(a)
	if got, err := metalog.Knows(a); err != api.OK || !slices.Equal(got, want) {
		t.Fatalf("Knows() = %v, %d, want %v, of %v", got, err, want, before)
	}
	holds(t, "behind Knows", a, before)
}

func appends(t *testing.T, a *array.Array, g api.Geometry, base, count int, r api.Record, want api.Errno) {
	t.Helper()
	if err := metalog.Append(a, g, base, count, r); err != want {
		t.Fatalf("Append(%v, %d, %d, %.80v) = %d, want %d", g, base, count, r, err, want)
	}
}

// replays asks Replay for records, and that it leaves all as it was.
func replays(t *testing.T, a *array.Array, g api.Geometry, know []bool, base int, want ...api.Record) {
	t.Helper()
	before := snapshot(a)
	if got, err := metalog.Replay(a, g, know, base); err != api.OK || !slices.EqualFunc(got, want, sameRecord) {
		t.Fatalf("Replay(%v, %v, %d) = %.200v, %d, want %.200v, of %v", g, know, base, got, err, want, before)
	}
	holds(t, "behind Replay", a, before)
}

// replayFails asks Replay for an error, no records beside it, and that it leaves all as it was.
func replayFails(t *testing.T, a *array.Array, g api.Geometry, know []bool, base int, want api.Errno) {
	t.Helper()
	before := snapshot(a)
	if got, err := metalog.Replay(a, g, know, base); err != want || len(got) != 0 {
		t.Fatalf("Replay(%v, %v, %d) = %.200v, %d, want %d, of %v", g, know, base, got, err, want, before)
	}
	holds(t, "behind a Replay that fails", a, before)
}

func saves(t *testing.T, a *array.Array, g api.Geometry, s api.Saved, want api.Errno) {
	t.Helper()
	if err := metalog.Save(a, g, s); err != want {
		t.Fatalf("Save(%v, %.120v) = %d, want %d", g, s, err, want)
	}
}

// latest asks Latest for a checkpoint, and that it leaves all as it was.
func latest(t *testing.T, a *array.Array, g api.Geometry, know []bool, want api.Saved) {
	t.Helper()
	before := snapshot(a)
	if got, err := metalog.Latest(a, g, know); err != api.OK || !sameSaved(got, want) {
		t.Fatalf("Latest(%v, %v) = %.200v, %d, want %.200v, of %v", g, know, got, err, want, before)
	}
	holds(t, "behind Latest", a, before)
}

// latestFails asks Latest for an error, zero values beside it, and that it leaves all as it was.
func latestFails(t *testing.T, a *array.Array, g api.Geometry, know []bool, want api.Errno) {
	t.Helper()
	before := snapshot(a)
	if got, err := metalog.Latest(a, g, know); err != want || !sameSaved(got, api.Saved{}) {
		t.Fatalf("Latest(%v, %v) = %.200v, %d, want %d, of %v", g, know, got, err, want, before)
	}
	holds(t, "behind a Latest that fails", a, before)
}

// The sections Errors and Types, and the limits that the chapter leans on.
func TestNumbers(t *testing.T) {
	if got := [...]api.Errno{api.OK, api.ErrArg, api.ErrConfig, api.ErrCrashed, api.ErrDamaged, api.ErrLogFull}; got != [...]api.Errno{0, 1, 50, 130, 150, 180} {
		t.Errorf("errors are %v", got)
	}
	if got := [...]int{api.MaxNumber, api.MaxData, api.MaxDisks, api.MaxSlots, api.MaxObjects, api.MaxStripes, api.MaxKey, api.AreaSectors}; got != [...]int{maxNumber, maxData, maxDisks, maxSlots, maxObjects, maxStripes, maxKey, 2} {
		t.Errorf("limits are %v", got)
	}
	g := slots(1)
	a := fresh(t, 1, sizeOf(g))
	replayFails(t, a, g, []bool{true}, -1, 1)
	replayFails(t, a, api.Geometry{}, []bool{true}, 0, 50)
	replayFails(t, a, g, nil, 0, 150)
	appends(t, a, g, 0, 1, put("a", 0), 180)
	a.CrashAfter(0)
	labels(t, a, nil, 130)
	var s api.Saved = checkpoint(1, 2, object("a", 0, 0))
	if s.Area != 1 || s.Epoch != 2 || len(s.Objects) != 1 {
		t.Errorf("%v", s)
	}
}

// The chapter's examples.
func TestExamples(t *testing.T) {
	g := api.Geometry{K: 1, M: 1, Size: 1, Stripes: 2, Slots: 2, Objects: 2}
	a := fresh(t, 2, 9)
	labels(t, a, []int{0, 1}, api.OK)
	saves(t, a, g, checkpoint(0, 0), api.OK)
	know := []bool{true, true}
	knows(t, a, know...)
	latest(t, a, g, know, checkpoint(0, 0))
	appends(t, a, g, 0, 0, put("a", 0), api.OK)
	replays(t, a, g, know, 0, put("a", 0))
	appends(t, a, g, 0, 2, put("a", 0), api.ErrLogFull)
	saves(t, a, g, checkpoint(1, 1, object("a", 0, 1)), api.OK)
	latest(t, a, g, know, checkpoint(1, 1, object("a", 0, 1)))
	replays(t, a, g, know, 1)
}

// P18.1, P18.2, P18.4: the bytes of the chapter's examples, one by one.
func TestExampleBytes(t *testing.T) {
	g := slots(2)
	a := fresh(t, 2, sizeOf(g))
	labels(t, a, []int{0, 1}, api.OK)
	appends(t, a, g, 0x01020303, 1, put("a", 5, 3), api.OK)
	saves(t, a, g, checkpoint(1, 7, object("b", 2, 9, 1)), api.OK)
	want := map[int][]byte{
		0: {0, 0, 0, 0, 0, 0, 0, 0, 76},
		3: {0, 0, 0, 3, 0, 0, 0, 7, 0, 1, 0, 0, 0, 9, 1, 1, 'b', 0, 0, 0, 2, 0, 1, 0, 1},
		4: {0, 0, 0, 4, 0, 0, 0, 7},
		6: {0, 0, 0, 6, 1, 2, 3, 5, 1, 1, 'a', 0, 0, 0, 5, 0, 1, 0, 3},
	}
	for disk := range 2 {
		list := a.Lasts(disk)
		if len(list) != len(want) || len(a.Waits(disk)) != 0 {
			t.Fatalf("disk %d has %v", disk, list)
		}
		for _, h := range list {
			b := h.B[:len(h.B)-4]
			if !slices.Equal(b, want[h.Addr]) {
				t.Errorf("disk %d has %v at %d, want %v", disk, b, h.Addr, want[h.Addr])
			}
			if sum := crc32.Checksum(b, crc32.MakeTable(crc32.Castagnoli)); binary.BigEndian.Uint32(h.B[len(b):]) != sum {
				t.Errorf("disk %d has the sum %v at %d", disk, h.B[len(b):], h.Addr)
			}
		}
	}
}
