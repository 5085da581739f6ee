package ppu_test

import (
	"slices"
	"testing"

	"arcade/ppu"
)

// model is a second picture, by the chapter's words alone: it goes clock by clock, and asks anew at each point what stands there.
type model struct {
	bytes       [65536]int // of VRAM, OAM, and what was written to the registers
	line, clock int
	lines       [144][]byte // of this frame
	frame       []byte
	wyWas       []int // the lines of this frame at whose mode 3 WY was the line
	windowed    []int // the lines of this frame that had the window at some point
}

func newModel() *model {
	m := &model{frame: make([]byte, points)}
	m.bytes[lcdc], m.bytes[bgp], m.bytes[obp0], m.bytes[obp1] = 145, 252, 255, 255
	return m
}

func (m *model) control(bit int) bool {
	return m.bytes[lcdc]>>bit%2 == 1
}

func (m *model) mode() int {
	if !m.control(7) {
		return 0
	}
	return modeAt(m.line, m.clock)
}

func (m *model) read(address int) int {
	mode := m.mode()
	switch {
	case address >= 32768 && address <= 40959 && mode != 3, address >= 65024 && address <= 65183 && mode != 2 && mode != 3:
		return m.bytes[address]
	case address == ly:
		return m.line
	case address == stat:
		value := 128 + m.bytes[stat] + mode
		if m.line == m.bytes[lyc] {
			value += 4
		}
		return value
	case address >= 65344 && address <= 65355 && address != dma:
		return m.bytes[address]
	}
	return 255
}

func (m *model) write(address, value int) {
	value = int(uint8(value))
	mode := m.mode()
	switch {
	case address >= 32768 && address <= 40959:
		if mode != 3 {
			m.bytes[address] = value
		}
	case address >= 65024 && address <= 65183:
		if mode != 2 && mode != 3 {
			m.bytes[address] = value
		}
	case address == stat:
		m.bytes[stat] = value & (64 + 32 + 16 + 8)
	case address == lcdc:
		if value < 128 && m.control(7) {
			m.line, m.clock, m.frame = 0, 0, make([]byte, points)
		}
		if value >= 128 && !m.control(7) {
			m.beginFrame()
		}
		m.bytes[lcdc] = value
	case address >= 65344 && address <= 65355 && address != dma && address != ly:
		m.bytes[address] = value
	}
}

func (m *model) beginFrame() {
	m.line, m.clock, m.wyWas, m.windowed = 0, 0, nil, nil
}

func (m *model) statLine() bool {
	mode := m.mode()
	enabled := func(bit int) bool { return m.bytes[stat]>>bit%2 == 1 }
	return m.control(7) && (m.line == m.bytes[lyc] && enabled(6) || mode == 2 && enabled(5) || mode == 1 && enabled(4) || mode == 0 && enabled(3))
}

func (m *model) tick() int {
	if !m.control(7) {
		return 0
	}
	was, asked := m.statLine(), 0
	for range 4 {
		m.clock++
		if m.clock == 456 {
			m.clock = 0
			m.line++
			if m.line == 144 {
				asked = 1
				m.frame = slices.Concat(m.lines[:]...)
			}
			if m.line == 154 {
				m.beginFrame()
			}
		}
		if m.line < 144 && m.clock == 80 && m.bytes[wy] == m.line {
			m.wyWas = append(m.wyWas, m.line)
		}
		if m.line < 144 && m.clock == 252 {
			m.draw()
		}
	}
	if !was && m.statLine() {
		asked += 2
	}
	return asked
}

func (m *model) draw() {
	sprites := m.spritesOf(m.line)
	var made []byte
	windowSomewhere := false
	for x := range 160 {
		there := m.windowAt(x)
		windowSomewhere = windowSomewhere || there
		number := 0
		if m.control(0) && there {
			number = m.tilePoint(m.mapOf(6), len(m.windowed), x+7-m.bytes[wx])
		} else if m.control(0) {
			number = m.tilePoint(m.mapOf(3), (m.line+m.bytes[scy])%256, (x+m.bytes[scx])%256)
		}
		point := twoBits(m.bytes[bgp], number)
		if s, n := m.spriteAt(sprites, x, m.line); n != 0 && (m.bytes[s+3] < 128 || number == 0) {
			point = twoBits(m.bytes[obp0+m.bytes[s+3]>>4%2], n)
		}
		made = append(made, byte(point))
	}
	m.lines[m.line] = made
	if windowSomewhere {
		m.windowed = append(m.windowed, m.line)
	}
}

func twoBits(colours, number int) int {
	for range number {
		colours /= 4
	}
	return colours % 4
}

func (m *model) mapOf(bit int) int {
	if m.control(bit) {
		return 39936
	}
	return 38912
}

func (m *model) windowAt(x int) bool {
	return m.control(5) && len(m.wyWas) > 0 && m.bytes[wx] <= 166 && x+7 >= m.bytes[wx]
}

// tilePoint is the number at a row and a column of a map.
func (m *model) tilePoint(from, row, column int) int {
	tile := m.bytes[from+row/8*32+column/8]
	if m.control(4) {
		return m.pointOf(32768+16*tile, row%8, column%8)
	}
	if tile > 127 {
		tile -= 256
	}
	return m.pointOf(36864+16*tile, row%8, column%8)
}

func (m *model) pointOf(tile, row, column int) int {
	first, second := m.bytes[tile+2*row], m.bytes[tile+2*row+1]
	bit := 7 - column
	return first>>bit%2 + second>>bit%2*2
}

func (m *model) high() int {
	if m.control(2) {
		return 16
	}
	return 8
}

// spritesOf are the addresses of those of a line.
func (m *model) spritesOf(y int) []int {
	var found []int
	for i := range 40 {
		s := 65024 + 4*i
		top := m.bytes[s] - 16
		if m.control(1) && y >= top && y < top+m.high() {
			found = append(found, s)
		}
	}
	return found[:min(10, len(found))]
}

// spriteAt is the one at a point, and its number there; the number is 0, if there is none.
func (m *model) spriteAt(sprites []int, x, y int) (int, int) {
	best, number := 0, 0
	for _, s := range sprites {
		n := m.spritePoint(s, x, y)
		if n != 0 && (number == 0 || m.bytes[s+1] < m.bytes[best+1]) {
			best, number = s, n
		}
	}
	return best, number
}

func (m *model) spritePoint(s, x, y int) int {
	row, column := y-(m.bytes[s]-16), x-(m.bytes[s+1]-8)
	if column < 0 || column > 7 {
		return 0
	}
	tile, flags := m.bytes[s+2], m.bytes[s+3]
	if flags>>6%2 == 1 {
		row = m.high() - 1 - row
	}
	if flags>>5%2 == 1 {
		column = 7 - column
	}
	if m.control(2) {
		tile = tile / 2 * 2
		if row > 7 {
			tile, row = tile+1, row-8
		}
	}
	return m.pointOf(32768+16*tile, row, column)
}

// both are a picture and its model, that are given the same.
type both struct {
	p *ppu.PPU
	m *model
}

func newBoth() both {
	return both{ppu.New(), newModel()}
}

func (b both) write(list ...int) {
	for pair := range slices.Chunk(list, 2) {
		b.p.Write(pair[0], pair[1])
		b.m.write(pair[0], pair[1])
	}
}

// tick lets a Tick go by in both: they ask for the same, and stand alike.
func (b both) tick(t *testing.T) {
	t.Helper()
	line, clock := b.m.line, b.m.clock
	if got, want := b.p.Tick(), b.m.tick(); got != want {
		t.Fatalf("G3: Tick() = %d at %d, %d, want %d", got, line, clock, want)
	}
	if l, c := b.p.Line(); l != b.m.line || c != b.m.clock || b.p.Read(stat) != b.m.read(stat) {
		t.Fatalf("G2: Line() = %d, %d, STAT %d, want %d, %d, STAT %d", l, c, b.p.Read(stat), b.m.line, b.m.clock, b.m.read(stat))
	}
}

// alike compares all that both tell.
func (b both) alike(t *testing.T) {
	t.Helper()
	for address := lcdc; address <= last; address++ {
		if got, want := b.p.Read(address), b.m.read(address); got != want {
			t.Fatalf("G1: Read(%#x) = %d, want %d", address, got, want)
		}
	}
	for address := vram; address < vramEnd; address++ {
		b.alikeAt(t, address)
	}
	for address := oam; address < oamEnd; address++ {
		b.alikeAt(t, address)
	}
	b.framed(t, "G5")
}

func (b both) alikeAt(t *testing.T, address int) {
	t.Helper()
	if got, want := b.p.Memory(address), b.m.bytes[address]; got != want {
		t.Fatalf("G1: Memory(%#x) = %d, want %d", address, got, want)
	}
	if got, want := b.p.Read(address), b.m.read(address); got != want {
		t.Fatalf("G1: Read(%#x) = %d, want %d", address, got, want)
	}
}

// framed compares the frames.
func (b both) framed(t *testing.T, which string) {
	t.Helper()
	frame := b.p.Frame()
	if slices.Equal(frame, b.m.frame) {
		return
	}
	for y := range 144 {
		if got, want := row(frame, y), row(b.m.frame, y); got != want {
			t.Fatalf("%s: row %d (registers %v):\n%s, want\n%s", which, y, b.m.bytes[lcdc:last+1], got, want)
		}
	}
}

// frame lets both go on until a frame is whole.
func (b both) frame(t *testing.T) {
	t.Helper()
	for b.m.line >= 144 {
		b.tick(t)
	}
	for b.m.line < 144 {
		b.tick(t)
	}
	b.framed(t, "G4")
}
