package stripeio_test

import (
	"math/rand"
	"slices"
	"testing"

	"aumbry/api"
	"aumbry/erase"
	"aumbry/stripeio"
)

// What follows holds the calls against the chapter's words, told anew over what the disks tell: without layout, sector and errdec.

// model is what is to be answered of one stripe and epoch, and what the disks are to tell then.
type model struct {
	w             world
	stripe, epoch int
	size          int // sectors of each disk
	left          int // writes ahead of a crash; below 0: none is to come
	now           shot
}

// thereAt is the shard that is there, by the model.
func (m *model) thereAt(shard int) ([]byte, bool) {
	disk, place := on(m.w.g, m.stripe, shard), placeOf(m.w.g, m.stripe)
	if disk >= len(m.now.sides) {
		return nil, false
	}
	b := m.now.sides[disk].newest(place)
	if len(b) != m.w.g.Size+frame {
		return nil, false
	}
	data := []byte(b[8 : 8+m.w.g.Size])
	return data, b == string(framed(place, m.epoch, data))
}

// nearest is the one word of the code that differs from one in few enough bytes that are there: sought among those that any K of these make.
func nearest(w world, has []bool, word []byte) ([]byte, bool) {
	g := w.g
	there := 0
	for _, is := range has {
		if is {
			there++
		}
	}
	most := (g.M - (g.K + g.M - there)) / 2
	for bits := range 1 << (g.K + g.M) {
		picked := chosen(bits, g.K+g.M)
		if len(picked) != g.K || slices.ContainsFunc(picked, func(i int) bool { return !has[i] }) {
			continue
		}
		some, shards := make([]bool, g.K+g.M), make([][]byte, g.K+g.M)
		for _, i := range picked {
			some[i], shards[i] = true, word[i:i+1]
		}
		whole, err := erase.Decode(w.f, g.K, g.M, some, shards)
		if err != api.OK {
			w.t.Fatalf("erase.Decode: %d", err)
		}
		right, differ := slices.Concat(whole...), 0
		for i := range right {
			if has[i] && right[i] != word[i] {
				differ++
			}
		}
		if differ <= most {
			return right, true
		}
	}
	return nil, false
}

// read are the right shards, and those that are bad.
func (m *model) read() ([][]byte, []int, api.Errno) {
	if m.now.down {
		return nil, nil, api.ErrCrashed
	}
	g := m.w.g
	n := g.K + g.M
	has, good, shards := make([]bool, n), make([]bool, n), make([][]byte, n)
	for i := range n {
		shards[i], has[i] = m.thereAt(i)
		good[i] = has[i]
	}
	right := make([][]byte, n)
	for at := range g.Size {
		word := make([]byte, n)
		for i := range n {
			if has[i] {
				word[i] = shards[i][at]
			}
		}
		found, ok := nearest(m.w, has, word)
		if !ok {
			return nil, nil, api.ErrDamaged
		}
		for i := range n {
			right[i] = append(right[i], found[i])
			good[i] = good[i] && found[i] == word[i]
		}
	}
	var bad []int
	for i := range n {
		disk := on(g, m.stripe, i)
		if !good[i] && disk < len(m.now.sides) && m.now.sides[disk].live {
			bad = append(bad, i)
		}
	}
	return right, bad, api.OK
}

// write writes some shards.
func (m *model) write(shards [][]byte, which []int) (int, api.Errno) {
	written := 0
	for _, i := range which {
		if m.now.down {
			return 0, api.ErrCrashed
		}
		disk, place := on(m.w.g, m.stripe, i), placeOf(m.w.g, m.stripe)
		if disk >= len(m.now.sides) || !m.now.sides[disk].live || place >= m.size {
			continue
		}
		m.now.sides[disk].waits[place] = string(framed(place, m.epoch, shards[i]))
		written++
		if m.left > 0 {
			m.left--
			m.now.down = m.left == 0
		}
	}
	return written, api.OK
}

// trial is a world in which things happen by lot, always the same ones.
type trial struct {
	world
	lot  *rand.Rand
	size int
}

// hurts lets something happen to the disks.
func (w trial) hurts() {
	g := w.g
	stripe := w.lot.Intn(g.Stripes)
	disk, place := w.lot.Intn(len(w.a.Live())), placeOf(g, stripe)
	switch w.lot.Intn(9) {
	case 0:
		w.a.Fail(disk)
	case 1, 2, 3:
		w.a.Replace(disk)
	case 4, 5:
		w.a.Write(disk, place, framed(place, w.lot.Intn(3), someBytes(g.Size, w.lot.Intn(4))))
	case 6:
		w.a.Write(disk, place, framed(place-w.lot.Intn(2), w.lot.Intn(3), someBytes(g.Size-w.lot.Intn(2), 1)))
	case 7:
		w.flushes()
	case 8:
		w.a.Corrupt(disk, place, w.lot.Intn(100), byte(w.lot.Intn(256)))
	}
}

// calls holds one call against the model, and lets the power come again.
func (w trial) calls() {
	w.t.Helper()
	left := w.lot.Intn(6*(w.g.K+w.g.M)) - 5*(w.g.K+w.g.M)
	w.a.CrashAfter(left)
	m := &model{w.world, w.lot.Intn(w.g.Stripes), w.lot.Intn(2), w.size, left, snapshot(w.a)}
	switch w.lot.Intn(6) {
	case 0, 1:
		data := someData(w.g, w.lot.Int())
		_, want := m.write(encoded(w.t, w.g, data), chosen(1<<(w.g.K+w.g.M)-1, w.g.K+w.g.M))
		w.writes(m.stripe, m.epoch, data, want)
	case 2, 3:
		right, bad, want := m.read()
		if want != api.OK {
			w.fails(m.stripe, m.epoch, want)
		} else {
			w.reads(m.stripe, m.epoch, slices.Concat(right[:w.g.K]...), bad...)
		}
	case 4, 5:
		right, bad, want := m.read()
		count := 0
		if want == api.OK {
			count, want = m.write(right, bad)
		}
		if n, err := stripeio.Fix(w.a, w.f, w.g, m.stripe, m.epoch); n != count || err != want {
			w.t.Fatalf("Fix(%d, %d) of %+v = %d, %d, want %d, %d", m.stripe, m.epoch, w.g, n, err, count, want)
		}
	}
	holds(w.t, "behind a call", w.a, m.now)
	keep := make([][]int, w.lot.Intn(len(m.now.sides)+1))
	for i := range keep {
		keep[i] = w.lot.Perm(w.size)[:w.lot.Intn(w.size)]
	}
	if m.now.down {
		w.a.Restart(keep)
	}
}

// P15.2 to P15.5: whatever happens to the disks, each call answers what the chapter says, and leaves just that on them.
func TestModel(t *testing.T) {
	for seed := range 400 {
		lot := rand.New(rand.NewSource(int64(seed)))
		g := api.Geometry{K: 1 + lot.Intn(3), M: lot.Intn(4), Size: 1 + lot.Intn(3), Stripes: 1 + lot.Intn(3), Slots: 1 + lot.Intn(2), Objects: 1}
		disks, size := g.K+g.M, fixed+g.Slots+g.Stripes
		switch lot.Intn(6) {
		case 0:
			disks = 1 + lot.Intn(disks+2)
		case 1:
			size = size - lot.Intn(3)
		}
		w := trial{sized(t, g, disks, size), lot, size}
		for range 60 {
			if lot.Intn(3) == 0 {
				w.hurts()
			}
			w.calls()
		}
	}
}
