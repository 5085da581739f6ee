package board_test

import (
	"math/bits"
	"slices"

	"arcade/api"
	"arcade/cart"
	"arcade/cpu"
	"arcade/ports"
	"arcade/ppu"
)

// model is a second board, by the chapter's words: addresses are told apart by comparisons, memory lies at its addresses, and a move is known by the number of the cycle in which its first byte is moved.
type model struct {
	p       *cpu.CPU
	c       *cart.Cart
	o       *ports.Ports
	g       *ppu.PPU
	kept    [65536]byte
	written int
	now     int // the next cycle's number
	moves   []move
}

type move struct {
	v, first int
}

func newModel(c *cart.Cart) *model {
	return &model{p: cpu.New(), c: c, o: ports.New(), g: ppu.New(), written: 0xff}
}

func isKept(addr int) bool {
	return addr >= work && addr < echo || addr >= sound && addr < lcdc || addr >= high
}

func isPicture(addr int) bool {
	return addr >= vram && addr < ram || addr >= oam && addr < gap || addr >= lcdc && addr < unused && addr != mover
}

func isCartridge(addr int) bool {
	return addr < vram || addr >= ram && addr < work
}

func (m *model) read(addr int) int {
	if addr >= echo && addr < oam {
		addr -= 0x2000
	}
	switch {
	case isKept(addr):
		return int(m.kept[addr])
	case isPicture(addr):
		return m.g.Read(addr)
	case isCartridge(addr) && m.c != nil:
		return int(m.c.Read(addr))
	case addr == mover:
		return m.written
	}
	if v, e := m.o.Read(addr); e == api.OK {
		return v
	}
	return 255
}

func (m *model) write(addr, v int) {
	if addr >= echo && addr < oam {
		addr -= 0x2000
	}
	switch {
	case isKept(addr):
		m.kept[addr] = byte(v)
	case isPicture(addr):
		m.g.Write(addr, v)
	case isCartridge(addr):
		if m.c != nil {
			m.c.Write(addr, byte(v))
		}
	case addr == mover:
		m.ask(v)
	default:
		m.o.Write(addr, v)
	}
}

// ask: one that was asked for and has not begun is asked for no more.
func (m *model) ask(v int) {
	m.written = v
	m.moves = slices.DeleteFunc(m.moves, func(old move) bool { return old.first > m.now })
	m.moves = append(m.moves, move{v, m.now + 2})
}

// going is the move that goes on in the next cycle, and the number of its byte then; false, if there is none.
func (m *model) going() (move, int, bool) {
	for _, one := range slices.Backward(m.moves) {
		if one.first <= m.now {
			return one, m.now - one.first, m.now-one.first < 160
		}
	}
	return move{}, 0, false
}

// memory is what the mover reads.
func (m *model) memory(v, i int) int {
	if v > 0xdf {
		v -= 0x20
	}
	addr := 256*v + i
	if addr >= vram && addr < ram {
		return m.g.Memory(addr)
	}
	return m.read(addr)
}

func (m *model) cycle() {
	one, i, moved := m.going()
	if moved {
		m.g.Dma(i, m.memory(one.v, i))
	}
	want := m.p.Want()
	data := 0
	if moved && want.Addr < 0xff00 {
		data = 255
	} else if want.Kind == api.Read {
		data = m.read(want.Addr)
	} else if want.Kind == api.Write {
		m.write(want.Addr, want.Data)
	}
	for range 4 {
		m.o.Step(1)
	}
	for asked := m.g.Tick(); asked != 0; asked &= asked - 1 {
		m.o.Raise(bits.TrailingZeros(uint(asked)))
	}
	taken := m.p.Tick(data, int(m.kept[let])&m.o.Requests()&31)
	for i := range 5 {
		if taken == 1<<i {
			m.o.Take(i)
		}
	}
	m.now++
}

// mover is its five bytes.
func (m *model) mover() []byte {
	told := []byte{byte(m.written), 0, 0, 0, 0}
	if one, i, goes := m.going(); goes {
		told[1], told[2] = byte(160-i), byte(one.v)
	}
	if n := len(m.moves); n > 0 && m.moves[n-1].first > m.now {
		told[3], told[4] = byte(m.moves[n-1].first-m.now), byte(m.moves[n-1].v)
	}
	return told
}

func (m *model) state() []byte {
	parts := [][]byte{m.p.State(), nil, m.o.State(), m.g.State()}
	if m.c != nil {
		parts[1] = m.c.State()
	}
	var told []byte
	for _, part := range parts {
		n := len(part)
		told = append(append(told, byte(n%256), byte(n/256%256), byte(n/65536)), part...)
	}
	return slices.Concat(told, m.kept[work:echo], m.kept[sound:lcdc], m.kept[high:let], m.kept[let:], m.mover())
}
