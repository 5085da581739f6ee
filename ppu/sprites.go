package ppu

import (
	"cmp"
	"slices"

	"arcade/api"
)

// How many sprites a line may have, and how far a sprite's bytes are off its place.
const (
	mostSprites = 10
	spriteSize  = 4
	rowShift    = 16
	columnShift = 8
)

// A sprite's flags.
const (
	otherColours = 0x10
	mirrored     = 0x20
	upsideDown   = 0x40
	behind       = 0x80
)

// sprite is one of the table, by its bytes.
type sprite struct {
	row, column, tile, flags byte
}

// drawSprites draws those of the line over the background's points, of which numbers are the numbers.
func (p *PPU) drawSprites(points []byte, numbers *[api.Wide]byte) {
	var list [mostSprites]sprite
	found := p.findSprites(list[:0])
	slices.SortStableFunc(found, func(a, b sprite) int { return cmp.Compare(a.column, b.column) })
	var taken [api.Wide]bool // one that lies behind the background hides those below it all the same
	for _, s := range found {
		low, high := p.spriteRow(s)
		for i := range tileWide {
			x := int(s.column) - columnShift + i
			n := number(low, high, s.bitAt(i))
			if x < 0 || x >= api.Wide || n == 0 || taken[x] {
				continue
			}
			taken[x] = true
			if s.flags&behind == 0 || numbers[x] == 0 {
				points[x] = colour(p.coloursOf(s), n)
			}
		}
	}
}

// findSprites appends the first ones of the table that have the line, as many as a line may have.
func (p *PPU) findSprites(found []sprite) []sprite {
	for at := 0; at < oamSize && len(found) < mostSprites; at += spriteSize {
		s := sprite{row: p.oam[at], column: p.oam[at+1], tile: p.oam[at+2], flags: p.oam[at+3]}
		if row := p.rowIn(s); row >= 0 && row < p.spriteHigh() {
			found = append(found, s)
		}
	}
	return found
}

// rowIn is the line as a row of a sprite, which need not have it.
func (p *PPU) rowIn(s sprite) int {
	return int(p.registers[ly]) + rowShift - int(s.row)
}

func (p *PPU) spriteHigh() int {
	if p.has(highSprites) {
		return 2 * tileWide
	}
	return tileWide
}

// spriteRow tells the two bytes of a sprite's row that has the line.
func (p *PPU) spriteRow(s sprite) (byte, byte) {
	row := p.rowIn(s)
	if s.flags&upsideDown != 0 {
		row = p.spriteHigh() - 1 - row
	}
	tile := int(s.tile)
	if p.has(highSprites) {
		tile = tile&^1 + row/tileWide
	}
	return p.tileRow(tile*tileSize, row%tileWide)
}

// bitAt is which bit of a row's bytes is the sprite's point i from the left.
func (s sprite) bitAt(i int) byte {
	if s.flags&mirrored != 0 {
		return byte(i)
	}
	return byte(tileWide - 1 - i)
}

func (p *PPU) coloursOf(s sprite) byte {
	if s.flags&otherColours != 0 {
		return p.registers[obp1]
	}
	return p.registers[obp0]
}
