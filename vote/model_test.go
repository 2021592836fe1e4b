package vote_test

import (
	"testing"

	"aumbry/api"
	"aumbry/array"
	"aumbry/vote"
)

// model is disks by the chapters' words, of texts, which share nothing.
type model struct {
	shot
	size int
	left int // writes ahead of a crash; below 0: none is to come
}

func modelOf(a *array.Array, size, left int) *model {
	return &model{snapshot(a), size, left}
}

func (m *model) refuses(disk, place int) api.Errno {
	switch {
	case m.down:
		return api.ErrCrashed
	case !m.sides[disk].live:
		return api.ErrDiskDead
	case place < 0 || place >= m.size:
		return api.ErrDiskAddr
	}
	return api.OK
}

// write writes a sector to a disk.
func (m *model) write(disk, place int, b string) api.Errno {
	if err := m.refuses(disk, place); err != api.OK {
		return err
	}
	m.sides[disk].waits[place] = b
	if m.left > 0 {
		m.left--
		m.down = m.left == 0
	}
	return api.OK
}

// hears is what a disk says: opens: it says something or nothing, is: it says something.
func (m *model) hears(disk, place int) (opens, is bool, epoch int, data string) {
	if m.refuses(disk, place) != api.OK {
		return false, false, 0, ""
	}
	b := m.sides[disk].newest(place)
	if b == "" {
		return true, false, 0, ""
	}
	epoch, data, is = unframed(place, b)
	return is, is, epoch, data
}

// votes is what all disks say: each of what is said is held against each other one.
func (m *model) votes(knows []bool, place int) (api.Vote, api.Errno) {
	if m.down {
		return api.Vote{}, api.ErrCrashed
	}
	var v api.Vote
	for i := range m.sides {
		opens, is, epoch, data := m.hears(i, place)
		if opens && i < len(knows) && knows[i] {
			v.Witness = true
		}
		if !is {
			continue
		}
		copies := 0
		for j := range m.sides {
			if _, also, e, d := m.hears(j, place); also && e == epoch && d == data {
				copies++
			}
		}
		better := !v.Has || epoch > v.Epoch
		if v.Has && epoch == v.Epoch {
			better = copies > v.Copies || copies == v.Copies && data < string(v.Data)
		}
		if better {
			v.Has, v.Epoch, v.Data, v.Copies = true, epoch, []byte(data), copies
		}
	}
	return v, api.OK
}

// writeAll is Write of numbers that may be.
func (m *model) writeAll(place, epoch int, data string) (int, api.Errno) {
	n := 0
	for disk := range m.sides {
		switch m.write(disk, place, framed(place, epoch, data)) {
		case api.ErrCrashed:
			return 0, api.ErrCrashed
		case api.OK:
			n++
		}
	}
	return n, api.OK
}

// mend is Mend.
func (m *model) mend(place int) (int, api.Errno) {
	v, err := m.votes(nil, place)
	if err != api.OK || !v.Has {
		return 0, err
	}
	n := 0
	for disk, s := range m.sides {
		want := framed(place, v.Epoch, string(v.Data))
		if !s.live || s.newest(place) == want {
			continue
		}
		switch m.write(disk, place, want) {
		case api.ErrCrashed:
			return 0, api.ErrCrashed
		case api.OK:
			n++
		}
	}
	return n, api.OK
}

// asReads holds Read against the model.
func asReads(t *testing.T, a *array.Array, m *model, knows []bool, place int) {
	t.Helper()
	want, told := m.votes(knows, place)
	if got, err := vote.Read(a, knows, place); err != told || !same(got, want) {
		t.Fatalf("Read(%v, %d) = %.60v, %d, want %.60v, %d, of %v", knows, place, got, err, want, told, m.shot)
	}
	holds(t, "behind Read", a, m.shot)
}

// asWrites holds Write against the model.
func asWrites(t *testing.T, a *array.Array, m *model, place, epoch int, data string) {
	t.Helper()
	before := m.String()
	want, told := m.writeAll(place, epoch, data)
	if n, err := vote.Write(a, place, epoch, []byte(data)); n != want || err != told {
		t.Fatalf("Write(%d, %d, %.40q) = %d, %d, want %d, %d, of %s", place, epoch, data, n, err, want, told, before)
	}
	holds(t, "behind Write", a, m.shot)
}

// asMends holds Mend against the model.
func asMends(t *testing.T, a *array.Array, m *model, knows []bool, place int) {
	t.Helper()
	before := m.String()
	want, told := m.mend(place)
	if n, err := vote.Mend(a, knows, place); n != want || err != told {
		t.Fatalf("Mend(%v, %d) = %d, %d, want %d, %d, of %s", knows, place, n, err, want, told, before)
	}
	holds(t, "behind Mend", a, m.shot)
}

// state is what became of one disk's sector.
type state struct {
	name  string
	opens bool // the disk says something, or nothing
	lay   func(t *testing.T, a *array.Array, disk, place int)
}

// saysState is that of a disk that says an epoch and data.
func saysState(epoch int, data string) state {
	return state{"says", true, func(t *testing.T, a *array.Array, disk, place int) {
		lays(t, a, disk, place, framed(place, epoch, data))
	}}
}

// blanks are the states of disks that say nothing.
func blanks() []state {
	return []state{
		{"fresh", true, func(*testing.T, *array.Array, int, int) {}},
		{"replaced", true, func(t *testing.T, a *array.Array, disk, place int) {
			lays(t, a, disk, place, framed(place, 9, "gone"))
			a.Replace(disk)
		}},
		{"failed and replaced", true, func(t *testing.T, a *array.Array, disk, place int) {
			lays(t, a, disk, place, framed(place, 9, "gone"))
			a.Fail(disk)
			a.Replace(disk)
		}},
	}
}

// dead is the state of a disk that neither says something nor nothing, and can't be written.
func dead() state {
	return state{"dead", false, func(t *testing.T, a *array.Array, disk, place int) {
		lays(t, a, disk, place, framed(place, 9, "gone"))
		a.Fail(disk)
	}}
}

// spoilt are the states of disks that hold what is no sector of the place.
func spoilt() []state {
	changed := func(name string, at int) state {
		return state{name, false, func(t *testing.T, a *array.Array, disk, place int) {
			lays(t, a, disk, place, framed(place, 5, "a"))
			if err := a.Corrupt(disk, place, at, 1); err != api.OK {
				t.Fatalf("Corrupt = %d", err)
			}
		}}
	}
	other := func(name string, b func(place int) string) state {
		return state{name, false, func(t *testing.T, a *array.Array, disk, place int) { lays(t, a, disk, place, b(place)) }}
	}
	return []state{
		changed("place changed", 3),
		changed("epoch changed", 7),
		changed("data changed", 8),
		changed("sum changed", 12),
		other("of the place behind", func(place int) string { return framed(place+1, 9, "a") }),
		other("of the place ahead", func(place int) string { return framed(place-1, 9, "a") }),
		other("epoch above the greatest", func(place int) string { return framed(place, maxNumber+1, "a") }),
		other("greatest epoch of four bytes", func(place int) string { return framed(place, 1<<32-1, "a") }),
		other("no frame", func(int) string { return "abcdefghijklmnop" }),
		other("one byte", func(int) string { return "a" }),
		other("a byte too few", func(place int) string { return framed(place, 9, "")[:11] }),
		other("a byte too many", func(place int) string { return framed(place, 9, "a") + "a" }),
	}
}

// laid are disks with a state each, at a place.
func laid(t *testing.T, size, place int, states ...state) *array.Array {
	t.Helper()
	a := fresh(t, len(states), size)
	for disk, s := range states {
		s.lay(t, a, disk, place)
	}
	return a
}
