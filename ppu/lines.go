package ppu

import "arcade/api"

// The modes, by their numbers.
const (
	resting   = iota // behind a line's drawing, and while all is off
	blank            // below the picture
	searching        // for the line's sprites
	drawing
)

// The clocks of a line at which something happens, and the last line.
const (
	drawingAt = 80
	restingAt = 252
	lineEnd   = 456
	lastLine  = 153
)

// What Tick asks for.
const (
	askBlank = 1
	askStat  = 2
)

// STAT: the bits that are kept of what is written, and those that are made when it is read.
const (
	statBits  = 0x78
	statMatch = 0x04
	statNone  = 0x80
)

// The causes of the STAT line: a bit of STAT each.
const (
	byResting   = 0x08
	byBlank     = 0x10
	bySearching = 0x20
	byMatch     = 0x40
)

// Tick lets four clocks go by: it tells which requests came up, as bits.
func (p *PPU) Tick() int {
	if !p.has(allOn) {
		return 0
	}
	next := p.clock + api.CycleClocks
	if next != drawingAt && next != restingAt && next != lineEnd {
		p.clock = next
		return 0 // the mode and the line stay, so the STAT line does, too
	}
	was := p.statLine()
	asked := p.turn(next)
	if !was && p.statLine() {
		asked |= askStat
	}
	return asked
}

// turn goes on to a clock at which something happens; it tells whether the blank lines begin, as a request.
func (p *PPU) turn(clock int) int {
	p.clock = clock
	if clock == lineEnd {
		return p.nextLine()
	}
	if p.registers[ly] >= api.High {
		return 0
	}
	if clock == drawingAt {
		p.met = p.met || p.registers[wy] == p.registers[ly]
	} else {
		p.drawLine()
	}
	return 0
}

func (p *PPU) nextLine() int {
	p.clock = 0
	if p.registers[ly] == lastLine {
		p.registers[ly] = 0
		return 0
	}
	p.registers[ly]++
	if p.registers[ly] != api.High {
		return 0
	}
	p.shown = p.drawn
	p.forget()
	return askBlank
}

// forget makes ready for another frame: nothing of the last one counts there.
func (p *PPU) forget() {
	clear(p.drawn[:])
	p.met = false
	p.rows = 0
}

// writeLcdc has nothing to do when the picture is switched on: since it was off all stands at a frame's beginning.
func (p *PPU) writeLcdc(value byte) {
	was := p.has(allOn)
	p.registers[lcdc] = value
	if was && !p.has(allOn) {
		p.registers[ly] = 0
		p.clock = 0
		clear(p.shown[:])
		p.forget()
	}
}

func (p *PPU) mode() int {
	switch {
	case !p.has(allOn):
		return resting
	case p.registers[ly] >= api.High:
		return blank
	case p.clock < drawingAt:
		return searching
	case p.clock < restingAt:
		return drawing
	}
	return resting
}

func (p *PPU) matches() bool {
	return p.registers[ly] == p.registers[lyc]
}

func (p *PPU) readStat() byte {
	value := statNone | p.registers[stat] | byte(p.mode())
	if p.matches() {
		value |= statMatch
	}
	return value
}

// statLine tells whether one of the causes that are let is there.
func (p *PPU) statLine() bool {
	return p.has(allOn) && p.registers[stat]&p.causes() != 0
}

func (p *PPU) causes() byte {
	found := [...]byte{resting: byResting, blank: byBlank, searching: bySearching, drawing: 0}[p.mode()]
	if p.matches() {
		found |= byMatch
	}
	return found
}
