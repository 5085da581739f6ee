package arena_test

import (
	"slices"

	"arcade/api"
)

// model is a second pool: one row a buffer of the pool, in which stands whose it is; nothing is kept in lists.
type model struct {
	config api.PoolConfig
	rows   []row
	quotas map[int]int // of the arenas that are open
	clock  int         // counts what was taken
}

type row struct {
	class, size int
	owner       int // -1: free
	since       int
	bytes       []byte
}

func modelOf(c api.PoolConfig) *model {
	m := &model{config: c, quotas: map[int]int{}}
	for class, x := range c.Classes {
		for range x.Many {
			m.rows = append(m.rows, row{class: class, size: x.Size, owner: -1, bytes: make([]byte, x.Size)})
		}
	}
	return m
}

func (m *model) isOpen(id int) bool {
	_, there := m.quotas[id]
	return there
}

func (m *model) sum(id int) int {
	sum := 0
	for _, r := range m.rows {
		if r.owner == id {
			sum += r.size
		}
	}
	return sum
}

func (m *model) Open(quota int) (int, api.Errno) {
	if quota < 0 {
		return 0, api.ErrArenaQuota
	}
	for id := range m.config.Arenas {
		if !m.isOpen(id) {
			m.quotas[id] = quota
			return id, api.OK
		}
	}
	return 0, api.ErrArenaMany
}

func (m *model) Take(id, size, pick int) (api.Lease, api.Errno) {
	classes := m.config.Classes
	if !m.isOpen(id) {
		return api.Lease{}, api.ErrArenaNone
	}
	if size < 1 || size > classes[len(classes)-1].Size {
		return api.Lease{}, api.ErrArenaSize
	}
	class := 0
	for classes[class].Size < size {
		class++
	}
	if m.quotas[id]-m.sum(id) < classes[class].Size {
		return api.Lease{}, api.ErrArenaQuota
	}
	numbers := m.Free(class)
	if len(numbers) == 0 {
		return api.Lease{}, api.ErrArenaEmpty
	}
	if pick < 0 {
		pick = ^pick
	}
	number := numbers[uint64(pick)%uint64(len(numbers))]
	m.clock++
	r := &m.rows[number]
	r.owner, r.since = id, m.clock
	clear(r.bytes)
	return api.Lease{Buffer: number, Class: class, Size: r.size}, api.OK
}

// wrong tells what is wrong with an arena's number and a buffer's.
func (m *model) wrong(id, buffer int) api.Errno {
	if !m.isOpen(id) {
		return api.ErrArenaNone
	}
	if buffer < 0 || buffer >= len(m.rows) || m.rows[buffer].owner != id {
		return api.ErrArenaBuffer
	}
	return api.OK
}

func (m *model) Give(id, buffer int) api.Errno {
	if e := m.wrong(id, buffer); e != api.OK {
		return e
	}
	m.rows[buffer].owner = -1
	return api.OK
}

func (m *model) Close(id int) (int, api.Errno) {
	if !m.isOpen(id) {
		return 0, api.ErrArenaNone
	}
	sum := m.sum(id)
	delete(m.quotas, id)
	for i := range m.rows {
		if m.rows[i].owner == id {
			m.rows[i].owner = -1
		}
	}
	return sum, api.OK
}

func (m *model) Load(id, buffer, at, n int) ([]byte, api.Errno) {
	if e := m.wrong(id, buffer); e != api.OK {
		return nil, e
	}
	if size := m.rows[buffer].size; at < 0 || n < 0 || n > size || at > size || at+n > size {
		return nil, api.ErrArenaSpan
	}
	return slices.Clone(m.rows[buffer].bytes[at:][:n]), api.OK
}

func (m *model) Store(id, buffer, at int, b []byte) api.Errno {
	_, e := m.Load(id, buffer, at, len(b))
	if e == api.OK {
		copy(m.rows[buffer].bytes[at:], b)
	}
	return e
}

func (m *model) Used(id int) (int, api.Errno) {
	if !m.isOpen(id) {
		return 0, api.ErrArenaNone
	}
	return m.sum(id), api.OK
}

func (m *model) Free(class int) []int {
	var numbers []int
	for i, r := range m.rows {
		if r.class == class && r.owner < 0 {
			numbers = append(numbers, i)
		}
	}
	return numbers
}

func (m *model) Leases(id int) []api.Lease {
	var list []api.Lease
	if !m.isOpen(id) {
		return nil
	}
	for i, r := range m.rows {
		if r.owner == id {
			list = append(list, api.Lease{Buffer: i, Class: r.class, Size: r.size})
		}
	}
	slices.SortFunc(list, func(a, b api.Lease) int { return m.rows[a.Buffer].since - m.rows[b.Buffer].since })
	return list
}
