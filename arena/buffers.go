package arena

import (
	"slices"

	"arcade/api"
)

// Take gives an arena a buffer that has room for so many bytes, by a pick among those that are free.
func (p *Pool) Take(id int, size int, pick int) (api.Lease, api.Errno) {
	a, e := p.opened(id)
	if e != api.OK {
		return api.Lease{}, e
	}
	number := slices.IndexFunc(p.classes, func(s stock) bool { return s.size >= size })
	if size < 1 || number < 0 {
		return api.Lease{}, api.ErrArenaSize
	}
	c := &p.classes[number]
	if a.used()+c.size > a.quota {
		return api.Lease{}, api.ErrArenaQuota
	}
	if len(c.free) == 0 {
		return api.Lease{}, api.ErrArenaEmpty
	}
	lease := api.Lease{Buffer: c.free.draw(rest(pick, len(c.free))), Class: number, Size: c.size}
	a.loans.put(len(a.loans), loan{Lease: lease, bytes: make([]byte, c.size)})
	return lease, api.OK
}

// rest tells which one of so many a pick means.
func rest(pick, many int) int {
	if pick < 0 {
		pick = -(pick + 1)
	}
	return pick % many
}

// Give gives a buffer back.
func (p *Pool) Give(id int, buffer int) api.Errno {
	a, place, e := p.held(id, buffer)
	if e != api.OK {
		return e
	}
	p.release(a.loans.draw(place))
	return api.OK
}

// held looks up an arena that is open, and the place that a buffer has among its own.
func (p *Pool) held(id, number int) (*arena, int, api.Errno) {
	a, e := p.opened(id)
	if e != api.OK {
		return nil, 0, e
	}
	place := a.loans.find(func(l loan) bool { return l.Buffer == number })
	if place == len(a.loans) {
		return nil, 0, api.ErrArenaBuffer
	}
	return a, place, api.OK
}

// Load reads from a buffer.
func (p *Pool) Load(id int, buffer int, at int, n int) ([]byte, api.Errno) {
	bytes, e := p.span(id, buffer, at, n)
	return slices.Clone(bytes), e
}

// Store writes into one.
func (p *Pool) Store(id int, buffer int, at int, b []byte) api.Errno {
	bytes, e := p.span(id, buffer, at, len(b))
	copy(bytes, b)
	return e
}

// span is n bytes of an arena's buffer, from a place on, as they lie there.
func (p *Pool) span(id, number, at, n int) ([]byte, api.Errno) {
	a, place, e := p.held(id, number)
	if e != api.OK {
		return nil, e
	}
	bytes := a.loans[place].bytes
	if at < 0 || n < 0 || n > len(bytes)-at { // at+n may be too great for an int
		return nil, api.ErrArenaSpan
	}
	return bytes[at : at+n], api.OK
}
