package vote_test

import (
	"encoding/binary"
	"fmt"
	"hash/crc32"
	"maps"
	"math"
	"reflect"
	"slices"
	"testing"

	"aumbry/api"
	"aumbry/array"
	"aumbry/vote"
)

// The limits, written out: what api says of them is asked for too.
const (
	maxNumber  = 2147483647
	maxData    = 4096
	maxDisks   = 32
	maxSectors = 4096
)

// sectors are what a disk holds, by place.
type sectors map[int]string

// side is all that one disk tells.
type side struct {
	lasts, waits sectors
	live         bool
	births       int
}

// shot is all that disks tell.
type shot struct {
	sides []side
	down  bool
}

// String tells it in plain letters, for those who read why a test failed.
func (s shot) String() string {
	text := fmt.Sprintf("down %v", s.down)
	for i, d := range s.sides {
		text += fmt.Sprintf("\ndisk %d: live %v, births %d", i, d.live, d.births)
		for _, place := range slices.Sorted(maps.Keys(d.lasts)) {
			text += fmt.Sprintf(", %d lasts %.40x", place, d.lasts[place])
		}
		for _, place := range slices.Sorted(maps.Keys(d.waits)) {
			text += fmt.Sprintf(", %d waits %.40x", place, d.waits[place])
		}
	}
	return text
}

func asSectors(list []api.Held) sectors {
	s := sectors{}
	for _, h := range list {
		s[h.Addr] = string(h.B)
	}
	return s
}

func snapshot(a *array.Array) shot {
	live, births := a.Live(), a.Births()
	s := shot{down: a.Down()}
	for i := range live {
		s.sides = append(s.sides, side{asSectors(a.Lasts(i)), asSectors(a.Waits(i)), live[i], births[i]})
	}
	return s
}

// newest is what is read at a place.
func (s side) newest(place int) string {
	if b, waits := s.waits[place]; waits {
		return b
	}
	return s.lasts[place]
}

// holds asks that disks tell just that.
func holds(t *testing.T, what string, a *array.Array, want shot) {
	t.Helper()
	if got := snapshot(a); !reflect.DeepEqual(got, want) {
		t.Fatalf("%s: the disks tell: %v\nwant: %v", what, got, want)
	}
}

func fresh(t *testing.T, disks, size int) *array.Array {
	t.Helper()
	a, err := array.New(disks, size)
	if err != api.OK {
		t.Fatalf("array.New(%d, %d) = %d", disks, size, err)
	}
	return a
}

// framed is a sector, made without the program's packages.
func framed(place, epoch int, data string) string {
	b := binary.BigEndian.AppendUint32(nil, uint32(place))
	b = binary.BigEndian.AppendUint32(b, uint32(epoch))
	b = append(b, data...)
	return string(binary.BigEndian.AppendUint32(b, crc32.Checksum(b, crc32.MakeTable(crc32.Castagnoli))))
}

// unframed is what a sector of a place holds, by the same words.
func unframed(place int, b string) (epoch int, data string, is bool) {
	if len(b) < 12 || len(b) > maxData+12 {
		return 0, "", false
	}
	n := binary.BigEndian.Uint32([]byte(b[4:]))
	data = b[8 : len(b)-4]
	if n > maxNumber || framed(place, int(n), data) != b {
		return 0, "", false
	}
	return int(n), data, true
}

// someBytes are bytes that hang on a seed.
func someBytes(n, seed int) string {
	b := make([]byte, n)
	x := uint32(seed)*2654435761 + 12345
	for i := range b {
		x = x*1664525 + 1013904223
		b[i] = byte(x >> 24)
	}
	return string(b)
}

// lays writes bytes at a place of a disk, past vote.
func lays(t *testing.T, a *array.Array, disk, place int, b string) {
	t.Helper()
	if err := a.Write(disk, place, []byte(b)); err != api.OK {
		t.Fatalf("Write(%d, %d, %.40x) = %d", disk, place, b, err)
	}
}

func flushes(t *testing.T, a *array.Array) {
	t.Helper()
	if err := a.Flush(); err != api.OK {
		t.Fatalf("Flush() = %d", err)
	}
}

// same tells whether two votes are; empty data is nil or not.
func same(v, w api.Vote) bool {
	return v.Has == w.Has && v.Epoch == w.Epoch && string(v.Data) == string(w.Data) && v.Copies == w.Copies && v.Witness == w.Witness
}

// reads asks Read for a vote, and that it leaves all as it was.
func reads(t *testing.T, a *array.Array, knows []bool, place int, want api.Vote) {
	t.Helper()
	before := snapshot(a)
	if got, err := vote.Read(a, knows, place); err != api.OK || !same(got, want) {
		t.Fatalf("Read(%v, %d) = %.60v, %d, want %.60v, of %v", knows, place, got, err, want, before)
	}
	holds(t, "behind Read", a, before)
}

// something is a vote that has, nothing one that has not.
func something(epoch int, data string, copies int, witness bool) api.Vote {
	return api.Vote{Has: true, Epoch: epoch, Data: []byte(data), Copies: copies, Witness: witness}
}

func nothing(witness bool) api.Vote {
	return api.Vote{Witness: witness}
}

// readFails asks Read for an error, zero values beside it, and that it leaves all as it was.
func readFails(t *testing.T, a *array.Array, knows []bool, place int, want api.Errno) {
	t.Helper()
	before := snapshot(a)
	if got, err := vote.Read(a, knows, place); err != want || !same(got, api.Vote{}) {
		t.Fatalf("Read(%v, %d) = %.60v, %d, want %d", knows, place, got, err, want)
	}
	holds(t, "behind a Read that fails", a, before)
}

// writes asks Write for how many took it, and an error.
func writes(t *testing.T, a *array.Array, place, epoch int, data string, want int, told api.Errno) {
	t.Helper()
	if n, err := vote.Write(a, place, epoch, []byte(data)); n != want || err != told {
		t.Fatalf("Write(%d, %d, %.40q) = %d, %d, want %d, %d", place, epoch, data, n, err, want, told)
	}
}

// mends asks Mend for how many took it, and an error.
func mends(t *testing.T, a *array.Array, place, want int, told api.Errno) {
	t.Helper()
	if n, err := vote.Mend(a, nil, place); n != want || err != told {
		t.Fatalf("Mend(%d) = %d, %d, want %d, %d", place, n, err, want, told)
	}
}

// lists are lists of disks that know: none, shorter, as long and longer than so many disks.
func lists(disks int) [][]bool {
	all := [][]bool{nil, {}}
	for length := 1; length <= disks+2; length++ {
		for bits := range 1 << length {
			list := make([]bool, length)
			for i := range list {
				list[i] = bits>>i&1 == 1
			}
			all = append(all, list)
		}
	}
	return all
}

// chosen are the numbers below n whose bits are set.
func chosen(bits, n int) []int {
	var list []int
	for i := range n {
		if bits>>i&1 == 1 {
			list = append(list, i)
		}
	}
	return list
}

// The sections Errors and Types, and the limits that the chapter leans on.
func TestNumbers(t *testing.T) {
	if got := [...]api.Errno{api.OK, api.ErrArg, api.ErrCrashed}; got != [...]api.Errno{0, 1, 130} {
		t.Errorf("errors are %v", got)
	}
	if api.MaxNumber != maxNumber || api.MaxData != maxData || api.MaxDisks != maxDisks || api.MaxSectors != maxSectors {
		t.Errorf("limits are %d, %d, %d and %d", api.MaxNumber, api.MaxData, api.MaxDisks, api.MaxSectors)
	}
	if maxNumber != math.MaxInt32 {
		t.Errorf("%d", maxNumber)
	}
	if _, err := vote.Read(nil, nil, 0); err != 1 {
		t.Errorf("%d", err)
	}
	a := fresh(t, 1, 1)
	if _, err := vote.Write(a, -1, 0, nil); err != 1 {
		t.Errorf("%d", err)
	}
	a.CrashAfter(0)
	if _, err := vote.Mend(a, nil, 0); err != 130 {
		t.Errorf("%d", err)
	}
	var v api.Vote = something(1, "a", 2, true)
	if has, epoch, data, copies, witness := v.Has, v.Epoch, v.Data, v.Copies, v.Witness; !has || epoch != 1 || len(data) != 1 || copies != 2 || !witness {
		t.Errorf("%v", v)
	}
}

// The chapter's examples, whichever disk is replaced.
func TestExamples(t *testing.T) {
	know := []bool{true, true, true}
	for disk := range 3 {
		a := fresh(t, 3, 4)
		writes(t, a, 1, 5, "a", 3, api.OK)
		reads(t, a, know, 1, something(5, "a", 3, true))
		a.Replace(disk)
		reads(t, a, know, 1, something(5, "a", 2, true))
		reads(t, a, nil, 1, something(5, "a", 2, false))
		mends(t, a, 1, 1, api.OK)
		reads(t, a, know, 1, something(5, "a", 3, true))
		reads(t, a, nil, 2, nothing(false))
	}
}

// P17.2: the bytes of the chapter's example, one by one.
func TestExampleBytes(t *testing.T) {
	a := fresh(t, 3, 4)
	writes(t, a, 1, 0x01020304, "a", 3, api.OK)
	for disk := range 3 {
		list := a.Waits(disk)
		if len(list) != 1 || list[0].Addr != 1 || len(list[0].B) != 13 || len(a.Lasts(disk)) != 0 {
			t.Fatalf("disk %d has %v", disk, list)
		}
		if got := list[0].B[:9]; !slices.Equal(got, []byte{0, 0, 0, 1, 1, 2, 3, 4, 'a'}) {
			t.Errorf("disk %d has %v", disk, got)
		}
	}
}
