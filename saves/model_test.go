package saves_test

import (
	"bytes"
	"encoding/binary"
	"hash/crc32"
	"maps"
	"slices"

	"arcade/api"
)

// record is a save, and where it stands in its area.
type record struct {
	version int
	data    []byte
	head    int
	sectors []int
}

// model is saves as the chapter tells them, kept in maps; and the bytes of the store, onto which its steps are laid.
type model struct {
	image   []byte
	tenants [9]map[string]record
}

// step is a write to a sector of the store, or, without bytes, a Sync.
type step struct {
	sector int
	bytes  []byte
}

func modelOf(image []byte) *model {
	m := &model{image: bytes.Clone(image)}
	for tenant := range m.tenants {
		m.tenants[tenant] = map[string]record{}
	}
	return m
}

// copied is a model that goes on apart from the other one.
func (m *model) copied() *model {
	c := &model{image: bytes.Clone(m.image)}
	for tenant := range m.tenants {
		c.tenants[tenant] = maps.Clone(m.tenants[tenant])
	}
	return c
}

// area is how many sectors an area of bytes has.
func area(image []byte) int { return len(image) / size / 8 }

// heads is how many of them are heads.
func heads(area int) int {
	n := area / 8
	if area%8 > 0 {
		n++
	}
	return n
}

// many is how many data sectors so many bytes have.
func many(bytes int) int {
	n := bytes / 510
	if bytes%510 > 0 {
		n++
	}
	return n
}

// sectorOf is a sector of a tenant's area, within the bytes.
func sectorOf(image []byte, tenant, n int) []byte {
	at := ((tenant-1)*area(image) + n) * size
	return image[at : at+size : at+size]
}

// headOf is a head, as it is when it is used.
func headOf(tenant int, name string, r record) []byte {
	b := append([]byte{1, 83, byte(tenant), byte(len(name))}, name...)
	b = append(b, make([]byte, 20-len(b))...)
	b = binary.LittleEndian.AppendUint32(b, uint32(r.version))
	b = binary.LittleEndian.AppendUint32(b, uint32(len(r.data)))
	b = binary.LittleEndian.AppendUint32(b, crc32.ChecksumIEEE(r.data))
	first := 0
	if len(r.sectors) > 0 {
		first = r.sectors[0]
	}
	b = binary.LittleEndian.AppendUint16(b, uint16(first))
	return append(b, make([]byte, 478)...)
}

// dataOf are the data sectors of a save.
func dataOf(r record) [][]byte {
	var all [][]byte
	for i := range r.sectors {
		part := r.data[510*i : min(510*i+510, len(r.data))]
		b := append(bytes.Clone(part), make([]byte, 510-len(part))...)
		next := 0
		if i+1 < len(r.sectors) {
			next = r.sectors[i+1]
		}
		all = append(all, binary.LittleEndian.AppendUint16(b, uint16(next)))
	}
	return all
}

// lay puts a save on the bytes of a store, wherever its record says.
func lay(image []byte, tenant int, name string, r record) {
	copy(sectorOf(image, tenant, r.head), headOf(tenant, name, r))
	for i, b := range dataOf(r) {
		copy(sectorOf(image, tenant, r.sectors[i]), b)
	}
}

// with is the head with another first byte.
func with(first byte, b []byte) []byte {
	return append([]byte{first}, b[1:]...)
}

// free tells the sectors of an area that no save has: heads, and others.
func (m *model) free(tenant int) (front, back []int) {
	busy := map[int]bool{}
	for _, r := range m.tenants[tenant] {
		busy[r.head] = true
		for _, n := range r.sectors {
			busy[n] = true
		}
	}
	for n := range area(m.image) {
		switch {
		case busy[n]:
		case n < heads(area(m.image)):
			front = append(front, n)
		default:
			back = append(back, n)
		}
	}
	return front, back
}

// place makes of numbers within an area those of the store.
func (m *model) place(tenant int, steps []step) []step {
	for i := range steps {
		steps[i].sector += (tenant - 1) * area(m.image)
	}
	return steps
}

// put tells the steps of a Put of arguments that may be, and keeps it.
func (m *model) put(tenant int, name string, data []byte) ([]step, api.Errno) {
	front, back := m.free(tenant)
	old, again := m.tenants[tenant][name]
	need := many(len(data))
	if len(front) == 0 || len(back) < need || old.version == 1<<32-1 {
		return nil, api.ErrSaveFull
	}
	r := record{version: old.version + 1, data: bytes.Clone(data), head: front[0], sectors: back[:need]}
	var steps []step
	for i, b := range dataOf(r) {
		steps = append(steps, step{r.sectors[i], b})
	}
	h := headOf(tenant, name, r)
	steps = append(steps, step{r.head, with(0, h)}, step{}, step{r.head, h}, step{})
	if again {
		steps = append(steps, step{old.head, with(0, headOf(tenant, name, old))}, step{})
	}
	m.tenants[tenant][name] = r
	return m.did(m.place(tenant, steps)), api.OK
}

// drop tells the steps of a Delete of arguments that may be, and does it.
func (m *model) drop(tenant int, name string) ([]step, api.Errno) {
	old, there := m.tenants[tenant][name]
	if !there {
		return nil, api.ErrSaveNone
	}
	delete(m.tenants[tenant], name)
	return m.did(m.place(tenant, []step{{old.head, with(0, headOf(tenant, name, old))}, {}})), api.OK
}

// did lays steps onto the bytes.
func (m *model) did(steps []step) []step {
	m.image, _, _ = play(m.image, steps, len(steps))
	return steps
}

// play is how a store stands behind steps of which at most so many are writes: its bytes, those that are safe, and how many writes are pending.
func play(image []byte, steps []step, limit int) (now, safe []byte, pending int) {
	now, safe = bytes.Clone(image), bytes.Clone(image)
	for _, s := range steps {
		if s.bytes == nil {
			safe, pending = bytes.Clone(now), 0
			continue
		}
		if limit == 0 {
			break
		}
		limit--
		pending++
		copy(now[s.sector*size:], s.bytes)
	}
	return now, safe, pending
}

// writes is how many of the steps are writes.
func writes(steps []step) int {
	n := 0
	for _, s := range steps {
		if s.bytes != nil {
			n++
		}
	}
	return n
}

func (m *model) Get(tenant int, name string) ([]byte, api.Errno) {
	r, there := m.tenants[tenant][name]
	if !there {
		return nil, api.ErrSaveNone
	}
	return r.data, api.OK
}

func (m *model) List(tenant int) ([]api.SaveInfo, api.Errno) {
	var infos []api.SaveInfo
	for _, name := range slices.Sorted(maps.Keys(m.tenants[tenant])) {
		r := m.tenants[tenant][name]
		infos = append(infos, api.SaveInfo{Name: name, Version: r.version, Size: len(r.data)})
	}
	return infos, api.OK
}

func (m *model) Used(tenant int) (int, api.Errno) {
	n := 0
	for _, r := range m.tenants[tenant] {
		n += 1 + many(len(r.data))
	}
	return n, api.OK
}
