package ppu_test

import (
	"strings"
	"testing"

	"arcade/ppu"
)

// digits is a digit so many times.
func digits(digit string, many int) string {
	return strings.Repeat(digit, many)
}

// tiled is a dark picture with some tiles: 1 with rows of their own, -1 (255) all 1, 128 (-128) all 2, 127 all 3, both maps' first rows of these.
func tiled() *ppu.PPU {
	p := dark()
	fill(p, vram+16, 0x0f, 0x33, 0x80, 0x00, 0x00, 0x01, 0xff, 0xff, 0x55, 0x00, 0x00, 0xaa, 0xf0, 0xf0, 0x18, 0x3c)
	for i := range 8 {
		fill(p, vram+16*255+2*i, 255, 0) // below tile 0 of the middle
		fill(p, vram+16*128+2*i, 0, 255)
		fill(p, 0x9000+16*127+2*i, 255, 255)
		fill(p, 0x9000+16+2*i, 255, 0)
	}
	fill(p, lowMap, 1, 255, 128, 127, 0)
	fill(p, highMap, 128, 1)
	return p
}

// TestG4Tile: a tile's rows and columns, written out, from tile 0's place on.
func TestG4Tile(t *testing.T) {
	frame := drawn(t, tiled(), 0x91)
	for y, want := range []string{"00221133", "10000000", "00000002", "33333333", "01010101", "20202020", "33330000", "00233200", "00000000"} {
		shows(t, "G4", "tile 1", frame, 0, y, want)
	}
}

// TestG4Numbers: tiles by both kinds of numbers.
func TestG4Numbers(t *testing.T) {
	shows(t, "G4", "numbers 0 to 255", drawn(t, tiled(), 0x91), 0, 0, "00221133"+"11111111"+"22222222"+"00000000"+"00000000")
	shows(t, "G4", "numbers -128 to 127", drawn(t, tiled(), 0x81), 0, 0, "11111111"+"11111111"+"22222222"+"33333333"+"00000000")
}

// TestG4EachTile: each tile by each number, of both kinds.
func TestG4EachTile(t *testing.T) {
	for _, control := range []int{0x91, 0x81} {
		p := dark()
		for tile := range 384 {
			fill(p, vram+16*tile, tile%256, tile/256*255) // its row 0 tells its place
		}
		for number := range 256 {
			p.Write(lowMap+number/16*32+number%16, number)
		}
		frame := drawn(t, p, control)
		for number := range 256 {
			tile := number
			if control == 0x81 && number < 128 {
				tile = 256 + number
			}
			want := ""
			for bit := 7; bit >= 0; bit-- {
				want += string(rune('0' + tile>>bit&1 + tile>>8*2))
			}
			shows(t, "G4", "a tile", frame, number%16*8, number/16*8, want)
		}
	}
}

// TestG4Maps: the background has the map that bit 3 says, whatever bit 6.
func TestG4Maps(t *testing.T) {
	for _, control := range []int{0x91, 0xd1} {
		shows(t, "G4", "the lower map", drawn(t, tiled(), control), 0, 0, "00221133"+"11111111")
		shows(t, "G4", "the upper map", drawn(t, tiled(), control|8), 0, 0, "22222222"+"00221133"+"00000000")
	}
}

// TestG4MapEnds: the first and last bytes of both maps, by SCX and SCY, which go round.
func TestG4MapEnds(t *testing.T) {
	for bit, at := range map[int]int{0: lowMap, 8: highMap} {
		p := dark()
		for tile := range 4 {
			for i := range 8 {
				fill(p, vram+16*tile+2*i, tile%2*255, tile/2*255)
			}
		}
		write(p, at, 1, at+31, 2, at+992, 3, at+1023, 1, scx, 248, scy, 248)
		frame := drawn(t, p, 0x91|bit)
		for y := range 8 {
			shows(t, "G4", "the last row", frame, 0, y, "11111111"+"33333333"+"00000000")
			shows(t, "G4", "the first row", frame, 0, 8+y, "22222222"+"11111111"+"00000000")
			shows(t, "G4", "the second row", frame, 0, 16+y, digits("0", 160))
		}
	}
}

// TestG4Moved: SCX and SCY by parts of a tile.
func TestG4Moved(t *testing.T) {
	p := tiled()
	write(p, scx, 3, scy, 0)
	shows(t, "G4", "three columns on", drawn(t, p, 0x91), 0, 0, "21133"+"11111111"+"22222222"+"0000")
	p = tiled()
	write(p, scx, 254, scy, 255)
	frame := drawn(t, p, 0x91)
	shows(t, "G4", "above the map", frame, 0, 0, digits("0", 160))
	shows(t, "G4", "left of the map", frame, 0, 1, "00"+"00221133"+"11111111")
	shows(t, "G4", "the second row", frame, 0, 2, "00"+"10000000"+"11111111")
	p = tiled()
	write(p, scx, 7, scy, 7)
	shows(t, "G4", "the last point of tile 1", drawn(t, p, 0x91), 0, 0, "0"+"11111111"+"22222222")
	p = tiled()
	write(p, scx, 256-159, scy, 256-143)
	frame = drawn(t, p, 0x91)
	shows(t, "G4", "at the corner", frame, 150, 143, "0000000000")
	p.Write(scx, 256-157)
	ticks(p, aFrame)
	shows(t, "G4", "at the corner", p.Frame(), 154, 143, "000002")
}

// TestG4Colours: each number has its two bits of BGP.
func TestG4Colours(t *testing.T) {
	for colours := range 256 {
		p := tiled()
		p.Write(bgp, colours)
		p.Write(lcdc, 0x91)
		want := ""
		for _, number := range []int{0, 0, 2, 2, 1, 1, 3, 3} {
			want += string(rune('0' + colours>>(2*number)&3))
		}
		ticks(p, toBlank)
		shows(t, "G4", "colours", p.Frame(), 0, 0, want)
	}
}

// TestG4GroundOff: without bit 0 each number is 0, of the background and of the window, and its colour BGP's.
func TestG4GroundOff(t *testing.T) {
	for colours := range 4 {
		p := tiled()
		write(p, bgp, 0xe4+colours, wy, 50, wx, 7)
		frame := drawn(t, p, 0xf0)
		for y := range 144 {
			shows(t, "G4", "without bit 0", frame, 0, y, digits(string(rune('0'+colours)), 160))
		}
	}
}

// TestG4LineByLine: each line is drawn with registers and memory as they are at its clock 252.
func TestG4LineByLine(t *testing.T) {
	p := tiled()
	p.Write(lcdc, 0x91)
	at(t, p, 3, 248)
	write(p, scx, 8, scy, 253, bgp, 0x1b) // the Tick that follows draws line 3, which is row 0 of the map
	p.Tick()
	write(p, scx, 0, scy, 0, bgp, straight)
	ticks(p, toBlank-(3*aLine+63))
	frame := p.Frame()
	shows(t, "G4", "line 2", frame, 0, 2, "00000002"+"11111111"+"22222222")
	shows(t, "G4", "line 3", frame, 0, 3, "22222222"+"11111111"+"33333333")
	shows(t, "G4", "line 4", frame, 0, 4, "01010101"+"11111111"+"22222222")
}

// TestG4MemoryByLine: memory that changes behind a line's drawing is seen from the next line on.
func TestG4MemoryByLine(t *testing.T) {
	p := tiled()
	p.Write(lcdc, 0x91)
	at(t, p, 5, 252)
	write(p, lowMap, 128)
	ticks(p, toBlank-(5*aLine+63))
	frame := p.Frame()
	shows(t, "G4", "line 5", frame, 0, 5, "20202020")
	shows(t, "G4", "line 6", frame, 0, 6, "22222222")
}

// TestG4EachScroll: each SCX and SCY, held against the model.
func TestG4EachScroll(t *testing.T) {
	b := newBoth()
	b.write(lcdc, 0, bgp, straight)
	for i := range vramEnd - vram {
		b.write(vram+i, i*i+i/7)
	}
	b.write(lcdc, 0x91)
	for n := range 256 {
		line := 0
		for b.m.line < 144 {
			if b.m.line != line {
				line = b.m.line
				b.write(scx, n+line*5, scy, n*3+line*7, lcdc, 0x81+n*8%32+line*8%32)
			}
			b.m.tick()
			b.p.Tick()
		}
		b.framed(t, "G4")
		for b.m.line != 0 {
			b.m.tick()
			b.p.Tick()
		}
		if n%8 != 0 {
			continue
		}
		b.alike(t)
	}
}
