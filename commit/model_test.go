package commit_test

import (
	"slices"

	"aumbry/api"
	"aumbry/array"
	"aumbry/metalog"
	"aumbry/stripeio"
	"aumbry/vote"
)

// model is a store by the chapter's words, over disks of its own; all that it knows of objects is a list.
type model struct {
	a       *array.Array
	g       api.Geometry
	objects []api.Object // by key
	area    int
	base    int
	count   int
	lost    bool
}

// modelFormat and modelRecover make one, of disks that fit.
func modelFormat(a *array.Array, g api.Geometry) (*model, api.Errno) {
	if err := metalog.Label(a, upTo(g.K+g.M)); err != api.OK {
		return nil, err
	}
	if err := metalog.Save(a, g, api.Saved{Area: 0, Epoch: 0}); err != api.OK {
		return nil, err
	}
	return &model{a: a, g: g}, api.OK
}

func modelRecover(a *array.Array, g api.Geometry) (*model, api.Errno) {
	knows, err := metalog.Knows(a)
	if err != api.OK {
		return nil, err
	}
	s, err := metalog.Latest(a, g, knows)
	if err != api.OK {
		return nil, err
	}
	records, err := metalog.Replay(a, g, knows, s.Epoch)
	if err != api.OK {
		return nil, err
	}
	m := &model{a: a, g: g, area: s.Area, base: s.Epoch}
	for _, o := range s.Objects {
		if _, is := m.find(o.Key); is || !m.apply(putOf(o.Key, o.Length, o.Stripes...), o.Epoch) {
			return nil, api.ErrDamaged
		}
	}
	for i, r := range records {
		if !m.apply(r, m.base+i+1) {
			return nil, api.ErrDamaged
		}
	}
	m.count = len(records)
	places := []int{1 + 2*m.area, 2 + 2*m.area}
	if m.count > 0 {
		places = append(places, 5+m.count-1)
	}
	for _, place := range places {
		if _, err := vote.Mend(a, knows, place); err != api.OK {
			return nil, err
		}
	}
	return m, a.Flush()
}

// find is the place of a key's object, and whether there is one.
func (m *model) find(key string) (int, bool) {
	for i, o := range m.objects {
		if o.Key >= key {
			return i, o.Key == key
		}
	}
	return len(m.objects), false
}

// holds tells whether an object has a stripe.
func (m *model) holds(stripe int) bool {
	for _, o := range m.objects {
		for _, held := range o.Stripes {
			if held == stripe {
				return true
			}
		}
	}
	return false
}

// needs is how many parts so many bytes are.
func (m *model) needs(bytes int) int {
	n := 0
	for at := 0; at < bytes; at += partOf(m.g) {
		n++
	}
	return n
}

// apply does what a record tells; false: it can't be done.
func (m *model) apply(r api.Record, epoch int) bool {
	at, is := m.find(r.Key)
	if r.Kind == api.RDelete {
		if is {
			m.objects = slices.Delete(slices.Clone(m.objects), at, at+1)
		}
		return is
	}
	if !is && len(m.objects) == m.g.Objects || len(r.Stripes) != m.needs(r.Length) {
		return false
	}
	for i, stripe := range r.Stripes {
		if stripe >= m.g.Stripes || m.holds(stripe) || slices.Contains(r.Stripes[:i], stripe) {
			return false
		}
	}
	o := object(r.Key, r.Length, epoch, r.Stripes...)
	if is {
		m.objects = slices.Clone(m.objects)
		m.objects[at] = o
	} else {
		m.objects = slices.Insert(slices.Clone(m.objects), at, o)
	}
	return true
}

// bars is what keeps a call of a key from being done.
func (m *model) bars(key string) api.Errno {
	if m.lost {
		return api.ErrCrashed
	}
	if key == "" || len(key) > 64 {
		return api.ErrBadKey
	}
	return api.OK
}

func (m *model) hears(err api.Errno) api.Errno {
	m.lost = m.lost || err == api.ErrCrashed
	return err
}

// plan are the least stripes that are free, as many as are needed.
func (m *model) plan(key string, length int) ([]int, api.Errno) {
	if _, is := m.find(key); !is && len(m.objects) >= m.g.Objects {
		return nil, api.ErrTooMany
	}
	var l []int
	for stripe := 0; stripe < m.g.Stripes && len(l) < m.needs(length); stripe++ {
		if !m.holds(stripe) {
			l = append(l, stripe)
		}
	}
	if len(l) < m.needs(length) {
		return nil, api.ErrNoSpace
	}
	return l, api.OK
}

// room is made, if there is none.
func (m *model) room() api.Errno {
	if m.count != m.g.Slots {
		return api.OK
	}
	area := map[int]int{0: 1, 1: 0}[m.area]
	if err := metalog.Save(m.a, m.g, api.Saved{Area: area, Epoch: m.base + m.count, Objects: m.objects}); err != api.OK {
		return err
	}
	m.area, m.base, m.count = area, m.base+m.count, 0
	return api.OK
}

// done appends a record, and does what it tells.
func (m *model) done(r api.Record) api.Errno {
	if err := metalog.Append(m.a, m.g, m.base, m.count, r); err != api.OK {
		return err
	}
	if !m.apply(r, m.base+m.count+1) {
		panic("a record that was planned can't be applied")
	}
	m.count++
	return api.OK
}

func (m *model) put(key, data string) api.Errno {
	if err := m.bars(key); err != api.OK {
		return err
	}
	stripes, err := m.plan(key, len(data))
	if err != api.OK {
		return err
	}
	if err := m.room(); err != api.OK {
		return m.hears(err)
	}
	filled := []byte(data + string(make([]byte, len(stripes)*partOf(m.g)-len(data))))
	for i, stripe := range stripes {
		if err := stripeio.Write(m.a, field, m.g, stripe, m.base+m.count+1, filled[i*partOf(m.g):(i+1)*partOf(m.g)]); err != api.OK {
			return m.hears(err)
		}
	}
	if err := m.a.Flush(); err != api.OK {
		return m.hears(err)
	}
	return m.hears(m.done(putOf(key, len(data), stripes...)))
}

func (m *model) remove(key string) api.Errno {
	if err := m.bars(key); err != api.OK {
		return err
	}
	if _, is := m.find(key); !is {
		return api.ErrNotFound
	}
	if err := m.room(); err != api.OK {
		return m.hears(err)
	}
	return m.hears(m.done(delOf(key)))
}

func (m *model) get(key string) (string, api.Errno) {
	if err := m.bars(key); err != api.OK {
		return "", err
	}
	at, is := m.find(key)
	if !is {
		return "", api.ErrNotFound
	}
	all := ""
	for _, stripe := range m.objects[at].Stripes {
		data, _, err := stripeio.Read(m.a, field, m.g, stripe, m.objects[at].Epoch)
		if err != api.OK {
			return "", m.hears(err)
		}
		all += string(data)
	}
	return all[:m.objects[at].Length], api.OK
}

func (m *model) stat(key string) (int, api.Errno) {
	if err := m.bars(key); err != api.OK {
		return 0, err
	}
	at, is := m.find(key)
	if !is {
		return 0, api.ErrNotFound
	}
	return m.objects[at].Length, api.OK
}

func (m *model) keys() []string {
	var l []string
	for _, o := range m.objects {
		l = append(l, o.Key)
	}
	return l
}
