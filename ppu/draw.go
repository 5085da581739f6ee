package ppu

import "arcade/api"

// LCDC's bits, from the lowest on. groundOn is for the background and the window; with a map's bit the upper one is taken.
const (
	groundOn = 1 << iota
	spritesOn
	highSprites
	groundMap
	lowTiles
	windowOn
	windowMap
	allOn
)

// Where tiles and maps lie in VRAM; middleTiles is the place of tile 0 where numbers go below 0.
const (
	middleTiles = 0x1000
	lowerMap    = 0x1800
	upperMap    = 0x1c00
	mapWide     = 32
	tileSize    = 16
	tileWide    = 8
)

// WX is the window's column, and so many more; beyond the last point it is nowhere.
const (
	windowShift = 7
	lastWindow  = api.Wide - 1 + windowShift
)

// has tells whether a bit of LCDC is set.
func (p *PPU) has(bit byte) bool {
	return p.registers[lcdc]&bit != 0
}

// drawLine draws the line with all as it is now.
func (p *PPU) drawLine() {
	var numbers [api.Wide]byte
	p.layGround(&numbers)
	if p.windowThere() {
		p.layWindow(&numbers)
		p.rows++
	}
	from := int(p.registers[ly]) * api.Wide
	points := p.drawn[from : from+api.Wide]
	for x, n := range numbers {
		points[x] = colour(p.registers[bgp], n)
	}
	if p.has(spritesOn) {
		p.drawSprites(points, &numbers)
	}
}

// colour is the two bits that a byte of colours has for a number.
func colour(colours, number byte) byte {
	return colours >> (2 * number) & 3
}

func (p *PPU) layGround(numbers *[api.Wide]byte) {
	if !p.has(groundOn) {
		return
	}
	p.lay(numbers[:], p.mapBy(groundMap), p.registers[ly]+p.registers[scy], p.registers[scx])
}

// windowThere tells whether the line has the window at some point, drawn or not: its rows count either way.
func (p *PPU) windowThere() bool {
	return p.has(windowOn) && p.met && p.registers[wx] <= lastWindow
}

func (p *PPU) layWindow(numbers *[api.Wide]byte) {
	if !p.has(groundOn) {
		return
	}
	from := max(0, int(p.registers[wx])-windowShift)
	column := from + windowShift - int(p.registers[wx])
	p.lay(numbers[from:], p.mapBy(windowMap), byte(p.rows), byte(column))
}

func (p *PPU) mapBy(bit byte) int {
	if p.has(bit) {
		return upperMap
	}
	return lowerMap
}

// lay makes numbers of a map's row, from a column on; both go round.
func (p *PPU) lay(numbers []byte, mapAt int, row, column byte) {
	tiles := p.vram[mapAt+int(row/tileWide)*mapWide:][:mapWide]
	var low, high byte
	for x := range numbers {
		if x == 0 || column%tileWide == 0 {
			low, high = p.tileRow(p.tileAt(tiles[column/tileWide]), int(row%tileWide))
		}
		numbers[x] = number(low, high, tileWide-1-column%tileWide)
		column++
	}
}

// tileAt is where a tile of the background lies.
func (p *PPU) tileAt(tile byte) int {
	if p.has(lowTiles) {
		return int(tile) * tileSize
	}
	return middleTiles + int(int8(tile))*tileSize
}

// tileRow tells the two bytes of a row of a tile.
func (p *PPU) tileRow(at, row int) (byte, byte) {
	return p.vram[at+2*row], p.vram[at+2*row+1]
}

// number has its lower bit from the one byte, its higher one from the other.
func number(low, high, bit byte) byte {
	return low>>bit&1 | high>>bit&1<<1
}
