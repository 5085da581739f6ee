package block_test

import "arcade/api"

// store is what can be asked of a store, or of a model of one.
type store interface {
	Sectors() int
	Limit(n int)
	Read(n int) ([]byte, api.Errno)
	Write(n int, data []byte) api.Errno
	Sync()
	Pending() int
	Crash(picks []int) []byte
	Image() []byte
}

// model is a second store: for each byte the safe one, and the pending ones with the numbers of their writes. No sector is cut out of anything.
type model struct {
	bytes   []past
	writes  int // pending ones
	limited bool
	allowed int
}

// past is what one byte was since the last Sync, ahead of which it was base.
type past struct {
	base  byte
	since []entry
}

type entry struct {
	write int
	x     byte
}

func modelOf(image []byte) *model {
	m := &model{bytes: make([]past, len(image))}
	for i, x := range image {
		m.bytes[i].base = x
	}
	return m
}

func (p past) last() byte {
	if n := len(p.since); n > 0 {
		return p.since[n-1].x
	}
	return p.base
}

func (m *model) Sectors() int { return len(m.bytes) / 512 }

func (m *model) Limit(n int) {
	m.limited, m.allowed = true, n
}

func (m *model) Read(n int) ([]byte, api.Errno) {
	if n < 0 || n >= m.Sectors() {
		return nil, api.ErrArg
	}
	var b []byte
	for at := range 512 {
		b = append(b, m.bytes[512*n+at].last())
	}
	return b, api.OK
}

func (m *model) Write(n int, data []byte) api.Errno {
	if n < 0 || n >= m.Sectors() || len(data) != 512 {
		return api.ErrArg
	}
	if m.limited && m.allowed <= 0 {
		return api.ErrBlockFull
	}
	m.allowed--
	for at, x := range data {
		p := &m.bytes[512*n+at]
		p.since = append(p.since, entry{m.writes, x})
	}
	m.writes++
	return api.OK
}

func (m *model) Sync() {
	for i, p := range m.bytes {
		m.bytes[i] = past{base: p.last()}
	}
	m.writes = 0
}

func (m *model) Pending() int { return m.writes }

func (m *model) Image() []byte {
	var b []byte
	for _, p := range m.bytes {
		b = append(b, p.last())
	}
	return b
}

// Crash asks for each byte which of its writes was the last that is there at this byte.
func (m *model) Crash(picks []int) []byte {
	var b []byte
	for i, p := range m.bytes {
		x := p.base
		for _, e := range p.since {
			if e.write < len(picks) && there(picks[e.write], i%512) {
				x = e.x
			}
		}
		b = append(b, x)
	}
	return b
}

// there tells whether a byte of a write is there with such a pick: in turns of 1026, of which the first 513 tell first bytes, the others last ones.
func there(pick, at int) bool {
	turn := uint64(pick)
	if pick < 0 {
		turn = ^turn
	}
	turn %= 1026
	if turn <= 512 {
		return uint64(at) < turn
	}
	return uint64(511-at) < turn-513
}
