package ppu

import "arcade/api"

// A state's parts, in order: the registers, the clock in machine cycles, met, rows, VRAM, OAM, the two pictures.
const (
	clockAt   = registersSize
	metAt     = clockAt + 1
	rowsAt    = metAt + 1
	memoryAt  = rowsAt + 1
	spritesAt = memoryAt + vramSize
	drawnAt   = spritesAt + oamSize
	shownAt   = drawnAt + packedSize
	stateSize = shownAt + packedSize
)

// A point has two bits in a state: so no number beyond 3 can stand there.
const (
	pointsAByte = 4
	packedSize  = frameSize / pointsAByte
)

// State tells all that it is.
func (p *PPU) State() []byte {
	state := make([]byte, stateSize)
	copy(state, p.registers[:])
	state[clockAt] = byte(p.clock / api.CycleClocks)
	if p.met {
		state[metAt] = 1
	}
	state[rowsAt] = byte(p.rows)
	copy(state[memoryAt:], p.vram[:])
	copy(state[spritesAt:], p.oam[:])
	pack(state[drawnAt:shownAt], &p.drawn)
	pack(state[shownAt:], &p.shown)
	return state
}

// Load makes it so.
func (p *PPU) Load(state []byte) api.Errno {
	if len(state) != stateSize || state[metAt] > 1 {
		return api.ErrPpuState
	}
	loaded := PPU{clock: int(state[clockAt]) * api.CycleClocks, met: state[metAt] == 1, rows: int(state[rowsAt])}
	copy(loaded.registers[:], state)
	copy(loaded.vram[:], state[memoryAt:])
	copy(loaded.oam[:], state[spritesAt:])
	unpack(&loaded.drawn, state[drawnAt:shownAt])
	unpack(&loaded.shown, state[shownAt:])
	if !loaded.mayBe() {
		return api.ErrPpuState
	}
	*p = loaded
	return api.OK
}

func pack(packed []byte, picture *[frameSize]byte) {
	for i := range packed {
		four := picture[i*pointsAByte:][:pointsAByte]
		packed[i] = four[0] | four[1]<<2 | four[2]<<4 | four[3]<<6
	}
}

func unpack(picture *[frameSize]byte, packed []byte) {
	for i, b := range packed {
		four := picture[i*pointsAByte:][:pointsAByte]
		four[0], four[1], four[2], four[3] = b&3, b>>2&3, b>>4&3, b>>6
	}
}

// mayBe tells whether some calls lead here.
func (p *PPU) mayBe() bool {
	if p.registers[stat]&^statBits != 0 || p.registers[dma] != 0 {
		return false
	}
	if p.registers[ly] > lastLine || p.clock >= lineEnd {
		return false
	}
	if !p.has(allOn) && (p.registers[ly] != 0 || p.clock != 0 || p.shown != [frameSize]byte{}) {
		return false
	}
	return p.frameMayBe()
}

// frameMayBe tells whether the frame that is being drawn may be so: nothing is there of lines that are not drawn yet.
func (p *PPU) frameMayBe() bool {
	if p.met && !p.hasLooked() || p.rows > 0 && !p.met {
		return false
	}
	lines := p.linesDrawn()
	if p.rows > lines {
		return false
	}
	for _, point := range p.drawn[lines*api.Wide:] {
		if point != 0 {
			return false
		}
	}
	return true
}

// hasLooked tells whether WY was looked for in this frame, and may count still.
func (p *PPU) hasLooked() bool {
	return p.registers[ly] < api.High && (p.registers[ly] > 0 || p.clock >= drawingAt)
}

// linesDrawn tells how many lines of the frame are drawn and not shown yet.
func (p *PPU) linesDrawn() int {
	lines := int(p.registers[ly])
	if lines >= api.High {
		return 0
	}
	if p.clock >= restingAt {
		lines++
	}
	return lines
}
