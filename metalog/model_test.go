package metalog_test

import (
	"encoding/binary"
	"slices"
	"testing"

	"aumbry/api"
	"aumbry/array"
	"aumbry/metalog"
)

// model is disks by the chapters' words, of texts, which share nothing.
type model struct {
	shot
	size int
	left int // writes ahead of a crash; below 0: none is to come
}

func modelOf(a *array.Array, size, left int) *model {
	return &model{snapshot(a), size, left}
}

func (m *model) refuses(disk, place int) api.Errno {
	switch {
	case m.down:
		return api.ErrCrashed
	case disk < 0 || disk >= len(m.sides):
		return api.ErrArg
	case !m.sides[disk].live:
		return api.ErrDiskDead
	case place < 0 || place >= m.size:
		return api.ErrDiskAddr
	}
	return api.OK
}

// write writes a sector to a disk.
func (m *model) write(disk, place int, b string) api.Errno {
	if err := m.refuses(disk, place); err != api.OK {
		return err
	}
	m.sides[disk].waits[place] = b
	if m.left > 0 {
		m.left--
		m.down = m.left == 0
	}
	return api.OK
}

// read is what lies at a place of a disk.
func (m *model) read(disk, place int) (string, api.Errno) {
	if err := m.refuses(disk, place); err != api.OK {
		return "", err
	}
	if b, waits := m.sides[disk].waits[place]; waits {
		return b, api.OK
	}
	return m.sides[disk].lasts[place], api.OK
}

func (m *model) flush() api.Errno {
	if m.down {
		return api.ErrCrashed
	}
	for _, s := range m.sides {
		for place, b := range s.waits {
			s.lasts[place] = b
		}
		clear(s.waits)
	}
	return api.OK
}

// writeAll writes a sector to all disks; how many took it.
func (m *model) writeAll(place, epoch int, data string) (int, api.Errno) {
	n := 0
	for disk := range m.sides {
		switch m.write(disk, place, framed(place, epoch, data)) {
		case api.ErrCrashed:
			return 0, api.ErrCrashed
		case api.OK:
			n++
		}
	}
	return n, api.OK
}

// heard is what disks say of a place: the greatest epoch, of what is said with it what most say, of several the least; and whether there is a witness.
func (m *model) heard(know []bool, place int) (has bool, epoch int, data string, witness bool) {
	count := map[string]int{}
	for disk := range m.sides {
		b, err := m.read(disk, place)
		e, d, is := unframed(place, b)
		witness = witness || err == api.OK && (is || b == "") && disk < len(know) && know[disk]
		if !is {
			continue
		}
		if !has || e > epoch {
			has, epoch = true, e
			clear(count)
		}
		if e == epoch {
			count[d]++
		}
	}
	for d, n := range count {
		if n > count[data] || n == count[data] && d < data {
			data = d
		}
	}
	return has, epoch, data, witness
}

// isRecord tells whether bytes are those of a record that may be, and which.
func isRecord(b string) (api.Record, bool) {
	if len(b) < 2 || len(b) < 8+int(b[1]) {
		return api.Record{}, false
	}
	rest := []byte(b[2+b[1]:])
	r := api.Record{Kind: int(b[0]), Key: b[2 : 2+b[1]], Length: int(binary.BigEndian.Uint32(rest))}
	for i := 6; i+2 <= len(rest); i += 2 {
		r.Stripes = append(r.Stripes, int(binary.BigEndian.Uint16(rest[i:])))
	}
	return r, mayBe(r) && recordBytes(r) == b
}

// mayBe tells whether a record may.
func mayBe(r api.Record) bool {
	if len(r.Key) < 1 || len(r.Key) > maxKey || r.Length < 0 || r.Length > maxNumber || len(r.Stripes) > maxStripes {
		return false
	}
	for _, stripe := range r.Stripes {
		if stripe < 0 || stripe >= maxStripes {
			return false
		}
	}
	return r.Kind == 1 || r.Kind == 2 && r.Length == 0 && len(r.Stripes) == 0
}

// areSaved tells whether two parts are those of objects, and of which.
func areSaved(parts [2]string) ([]api.Object, bool) {
	all := parts[0] + parts[1]
	if len(all) < 2 {
		return nil, false
	}
	var l []api.Object
	rest := all[2:]
	for len(rest) >= 4+9 {
		epoch, b := int(binary.BigEndian.Uint32([]byte(rest))), rest[4:]
		// All of the record but its stripes, and these.
		n := 2 + int(b[1]) + 6
		if len(b) < n {
			return nil, false
		}
		n += 2 * int(binary.BigEndian.Uint16([]byte(b[n-2:])))
		if len(b) < n {
			return nil, false
		}
		r, is := isRecord(b[:n])
		if !is || r.Kind != 1 || epoch > maxNumber {
			return nil, false
		}
		l = append(l, object(r.Key, r.Length, epoch, r.Stripes...))
		rest = b[n:]
	}
	return l, maySnap(l) && savedParts(l) == parts
}

// maySnap tells whether objects may be in one list.
func maySnap(l []api.Object) bool {
	stripes := 0
	for i, o := range l {
		if !mayBe(put(o.Key, o.Length, o.Stripes...)) || o.Epoch < 0 || o.Epoch > maxNumber || i > 0 && l[i-1].Key >= o.Key {
			return false
		}
		stripes += len(o.Stripes)
	}
	return len(l) <= maxObjects && stripes <= maxStripes
}

func (m *model) label(disks []int) api.Errno {
	for _, disk := range disks {
		if m.write(disk, 0, labelled()) == api.ErrCrashed {
			return api.ErrCrashed
		}
	}
	return m.flush()
}

func (m *model) knows() ([]bool, api.Errno) {
	var know []bool
	for disk := range m.sides {
		b, err := m.read(disk, 0)
		if err == api.ErrCrashed {
			return nil, err
		}
		know = append(know, b == labelled())
	}
	return know, api.OK
}

func (m *model) append(g api.Geometry, base, count int, r api.Record) api.Errno {
	if base < 0 || count < 0 || base > maxBase || !mayBe(r) {
		return api.ErrArg
	}
	if count >= g.Slots {
		return api.ErrLogFull
	}
	n, err := m.writeAll(slotPlace(count), base+count+1, recordBytes(r))
	if err != api.OK {
		return err
	}
	if err := m.flush(); err != api.OK {
		return err
	}
	if n == 0 {
		return api.ErrDamaged
	}
	return api.OK
}

func (m *model) replay(g api.Geometry, know []bool, base int) ([]api.Record, api.Errno) {
	if base < 0 || base > maxBase {
		return nil, api.ErrArg
	}
	if m.down && len(m.sides) > 0 {
		return nil, api.ErrCrashed
	}
	var l []api.Record
	for i := 0; i < g.Slots; i++ {
		has, epoch, data, witness := m.heard(know, slotPlace(i))
		r, is := isRecord(data)
		if has && epoch == base+i+1 && is {
			l = append(l, r)
			continue
		}
		if !witness {
			return nil, api.ErrDamaged
		}
		break
	}
	return l, api.OK
}

func (m *model) save(s api.Saved) api.Errno {
	if s.Area < 0 || s.Area > 1 || s.Epoch < 0 || s.Epoch > maxBase || !maySnap(s.Objects) {
		return api.ErrArg
	}
	parts := savedParts(s.Objects)
	n0, err := m.writeAll(areaPlace(s.Area, 0), s.Epoch, parts[0])
	if err != api.OK {
		return err
	}
	n1, err := m.writeAll(areaPlace(s.Area, 1), s.Epoch, parts[1])
	if err != api.OK {
		return err
	}
	if err := m.flush(); err != api.OK {
		return err
	}
	if n0 == 0 || n1 == 0 {
		return api.ErrDamaged
	}
	return api.OK
}

func (m *model) latest(know []bool) (api.Saved, api.Errno) {
	if m.down && len(m.sides) > 0 {
		return api.Saved{}, api.ErrCrashed
	}
	var whole []api.Saved
	damaged := false
	for area := range 2 {
		has0, epoch0, data0, witness0 := m.heard(know, areaPlace(area, 0))
		has1, epoch1, data1, witness1 := m.heard(know, areaPlace(area, 1))
		l, are := areSaved([2]string{data0, data1})
		if has0 && has1 && epoch0 == epoch1 && are {
			whole = append(whole, checkpoint(area, epoch0, l...))
		} else if !witness0 || !witness1 {
			damaged = true
		}
	}
	if damaged || len(whole) == 0 {
		return api.Saved{}, api.ErrDamaged
	}
	if len(whole) == 2 && whole[1].Epoch > whole[0].Epoch {
		return whole[1], api.OK
	}
	return whole[0], api.OK
}

// asLabels holds Label against the model, and so on: answers, and what lies on the disks behind it.
func asLabels(t *testing.T, a *array.Array, m *model, disks []int) {
	t.Helper()
	labels(t, a, disks, m.label(disks))
	holds(t, "behind Label", a, m.shot)
}

func asKnows(t *testing.T, a *array.Array, m *model) {
	t.Helper()
	want, told := m.knows()
	if got, err := metalog.Knows(a); err != told || !slices.Equal(got, want) {
		t.Fatalf("Knows() = %v, %d, want %v, %d, of %v", got, err, want, told, m.shot)
	}
	holds(t, "behind Knows", a, m.shot)
}

func asAppends(t *testing.T, a *array.Array, m *model, g api.Geometry, base, count int, r api.Record) {
	t.Helper()
	appends(t, a, g, base, count, r, m.append(g, base, count, r))
	holds(t, "behind Append", a, m.shot)
}

func asReplays(t *testing.T, a *array.Array, m *model, g api.Geometry, know []bool, base int) {
	t.Helper()
	if want, err := m.replay(g, know, base); err != api.OK {
		replayFails(t, a, g, know, base, err)
	} else {
		replays(t, a, g, know, base, want...)
	}
}

func asSaves(t *testing.T, a *array.Array, m *model, g api.Geometry, s api.Saved) {
	t.Helper()
	saves(t, a, g, s, m.save(s))
	holds(t, "behind Save", a, m.shot)
}

func asLatest(t *testing.T, a *array.Array, m *model, g api.Geometry, know []bool) {
	t.Helper()
	if want, err := m.latest(know); err != api.OK {
		latestFails(t, a, g, know, err)
	} else {
		latest(t, a, g, know, want)
	}
}
