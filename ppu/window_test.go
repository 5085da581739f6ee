package ppu_test

import (
	"slices"
	"testing"

	"arcade/ppu"
)

// counted is a dark picture whose upper map's rows tell their numbers, in points 0 and 3: eight bits, a tile each. The lower map is all 1.
func counted() *ppu.PPU {
	p := dark()
	for i := range 8 {
		fill(p, vram+16*1+2*i, 255, 255)
		fill(p, vram+16*5+2*i, 255, 0)
		for bit := range 3 {
			fill(p, vram+16*(2+bit)+2*i, i>>bit&1*255, i>>bit&1*255)
		}
	}
	for r := range 32 {
		for column := range 32 {
			p.Write(lowMap+32*r+column, 5)
			tile := 5
			if column < 5 {
				tile = r >> column & 1
			} else if column < 8 {
				tile = column - 3
			}
			p.Write(highMap+32*r+column, tile)
		}
	}
	return p
}

// rowAt tells the window's row of a frame's row, if the window stands at x there; else -1.
func rowAt(t *testing.T, frame []byte, x, y int) int {
	t.Helper()
	line := frame[y*160 : y*160+160]
	if slices.Min(line) == 1 && slices.Max(line) == 1 {
		return -1
	}
	bits := 0
	for column := range 8 {
		point := int(line[x+8*column])
		if point != 0 && point != 3 {
			t.Fatalf("G4: no row of the window from %d, %d on: %v", x, y, line)
		}
		bits |= point / 3 << column
	}
	return bits%32*8 + bits/32
}

// rowsAre compares the window's rows of some lines with those wanted, a line and a row each.
func rowsAre(t *testing.T, what string, frame []byte, x int, list ...int) {
	t.Helper()
	for pair := range slices.Chunk(list, 2) {
		if got := rowAt(t, frame, x, pair[0]); got != pair[1] {
			t.Errorf("G4: %s: line %d has the window's row %d, want %d", what, pair[0], got, pair[1])
		}
	}
}

// TestG4Window: a window from the picture's corner on, all of it.
func TestG4Window(t *testing.T) {
	p := counted()
	write(p, wy, 0, wx, 7)
	frame := drawn(t, p, 0xf1)
	for y := range 144 {
		rowsAre(t, "at the corner", frame, 0, y, y)
		shows(t, "G4", "right of the numbers", frame, 64, y, digits("1", 96))
	}
}

// TestG4WindowLate: it begins at its line, with its row 0.
func TestG4WindowLate(t *testing.T) {
	for _, top := range []int{1, 2, 77, 142, 143} {
		p := counted()
		write(p, wy, top, wx, 20)
		frame := drawn(t, p, 0xf1)
		for y := range 144 {
			want := y - top
			if y < top {
				want = -1
			}
			rowsAre(t, "a late one", frame, 13, y, want)
			shows(t, "G4", "left of it", frame, 0, y, digits("1", 13))
		}
	}
	for _, top := range []int{144, 150, 153, 154, 255} {
		p := counted()
		write(p, wy, top, wx, 20)
		frame := drawn(t, p, 0xf1)
		ticks(p, aFrame)
		for y := range 144 {
			rowsAre(t, "none", frame, 13, y, -1)
			rowsAre(t, "none in the next frame", p.Frame(), 13, y, -1)
		}
	}
}

// TestG4WindowColumns: each WX: where it begins, and with which column; beyond 166 it is nowhere.
func TestG4WindowColumns(t *testing.T) {
	for left := range 256 {
		p := dark()
		for tile := range 32 { // column c of the window: points of c / 8, alone
			fill(p, vram+16*tile, tile&1*255, tile>>1&1*255)
			p.Write(highMap+tile, tile)
			p.Write(lowMap+tile, 3)
		}
		write(p, wx, left, lcdc, 0xf1)
		ticks(p, toBlank)
		want := ""
		for x := range 160 {
			if left > 166 || x+7 < left {
				want += "3"
			} else {
				want += string(rune('0' + (x+7-left)/8%4))
			}
		}
		shows(t, "G4", "columns", p.Frame(), 0, 0, want)
	}
}

// TestG4WindowEdges: the least and greatest WX, written out.
func TestG4WindowEdges(t *testing.T) {
	for left, want := range map[int]string{
		0:   "3" + "00000000" + "11111111",
		6:   "0033333" + "00000000",
		7:   "00033333" + "00000000",
		8:   "2" + "00033333" + "00000000",
		165: "222222222" + digits("2", 149) + "00",
		166: digits("2", 159) + "0",
		167: digits("2", 160),
		255: digits("2", 160),
	} {
		p := dark()
		fill(p, vram, 0x1f, 0x1f)
		fill(p, vram+16, 0, 0)
		fill(p, vram+32, 255, 0)
		fill(p, vram+48, 0, 255)
		fill(p, highMap, 0, 1, 2)
		fill(p, lowMap, slices.Repeat([]int{3}, 32)...)
		p.Write(wx, left)
		shows(t, "G4", "WX", drawn(t, p, 0xf1), 0, 0, want)
	}
}

// TestG4WindowSwitch: rows are counted where the window is there, so those of lines without it wait.
func TestG4WindowSwitch(t *testing.T) {
	p := counted()
	write(p, wy, 4, wx, 7, lcdc, 0xf1)
	at(t, p, 10, 0)
	p.Write(lcdc, 0xd1)
	ticks(p, 5*aLine)
	p.Write(lcdc, 0xf1)
	ticks(p, 20*aLine)
	p.Write(wx, 167)
	ticks(p, 15*aLine)
	p.Write(wx, 166)
	ticks(p, 10*aLine)
	p.Write(wx, 7)
	ticks(p, toBlank-60*aLine)
	rowsAre(t, "switched", p.Frame(), 0, 3, -1, 4, 0, 9, 5, 10, -1, 14, -1, 15, 6, 34, 25, 35, -1, 49, -1, 60, 36, 143, 119)
}

// TestG4WindowHidden: a line whose background is off by bit 0 has the window all the same, as far as rows are counted.
func TestG4WindowHidden(t *testing.T) {
	p := counted()
	write(p, wy, 2, wx, 7, lcdc, 0xf1)
	at(t, p, 20, 0)
	p.Write(lcdc, 0xf0)
	ticks(p, 10*aLine)
	p.Write(lcdc, 0xf1)
	ticks(p, toBlank-30*aLine)
	frame := p.Frame()
	rowsAre(t, "hidden", frame, 0, 19, 17, 30, 28)
	for y := 20; y < 30; y++ {
		shows(t, "G4", "hidden", frame, 0, y, digits("0", 160))
	}
}

// TestG4WindowLooked: WY is looked for when a line's mode 3 begins, then alone, whatever bit 5.
func TestG4WindowLooked(t *testing.T) {
	for _, c := range []struct {
		what       string
		from, to   int // WY is the line from this Tick to that one
		line, want int
	}{
		{"in all of line 30", 30 * aLine, 31 * aLine, 30, 0},
		{"from the last moment ahead of mode 3 on", 30*aLine + 19, 31 * aLine, 30, 0},
		{"for the one Tick", 30*aLine + 19, 30*aLine + 20, 30, 0},
		{"in mode 2, not up to its end", 30 * aLine, 30*aLine + 19, 30, -1},
		{"from mode 3 on", 30*aLine + 20, 31 * aLine, 30, -1},
		{"seen later, too", 30*aLine + 19, 30*aLine + 20, 40, 10},
	} {
		for _, early := range []int{0xf1, 0xd1} {
			p := counted()
			write(p, wy, 200, wx, 7, lcdc, early)
			ticks(p, c.from)
			p.Write(wy, 30)
			ticks(p, c.to-c.from)
			p.Write(wy, 200)
			now := max(c.to, 30*aLine+62) // the Tick that follows draws line 30, or it is drawn
			ticks(p, now-c.to)
			late := early == 0xd1 && now > 30*aLine+62
			p.Write(lcdc, 0xf1)
			ticks(p, toBlank-now)
			want := c.want
			if late && want >= 0 { // its bit was off when line 30 was drawn
				want--
			}
			rowsAre(t, c.what, p.Frame(), 0, c.line, want)
		}
	}
}

// TestG4WindowAnew: each frame looks for WY anew, and counts rows anew.
func TestG4WindowAnew(t *testing.T) {
	p := counted()
	write(p, wy, 5, wx, 7)
	rowsAre(t, "the first frame", drawn(t, p, 0xf1), 0, 4, -1, 5, 0, 143, 138)
	ticks(p, aFrame)
	rowsAre(t, "the second frame", p.Frame(), 0, 4, -1, 5, 0, 143, 138)
	p.Write(wy, 145)
	ticks(p, aFrame)
	rowsAre(t, "the third frame, with WY below", p.Frame(), 0, 5, -1, 143, -1)
	p.Write(wy, 140)
	ticks(p, aFrame)
	rowsAre(t, "the fourth frame", p.Frame(), 0, 139, -1, 140, 0, 143, 3)
}

// TestG4WindowOff: all switched off and on again within a frame: WY is looked for anew, rows are counted anew.
func TestG4WindowOff(t *testing.T) {
	for _, clock := range []int{0, 80, 252} {
		p := counted()
		write(p, wy, 5, wx, 7, lcdc, 0xf1)
		at(t, p, 50, clock)
		write(p, lcdc, 0x71, lcdc, 0xf1)
		ticks(p, toBlank)
		rowsAre(t, "off and on", p.Frame(), 0, 4, -1, 5, 0, 143, 138)
		ticks(p, aFrame-toBlank)
		at(t, p, 50, clock)
		write(p, lcdc, 0x71, wy, 200, lcdc, 0xf1)
		ticks(p, toBlank)
		rowsAre(t, "off and on, without WY", p.Frame(), 0, 5, -1, 60, -1, 143, -1)
	}
}

// TestG4WindowMap: the window has the map of bit 6, whatever bit 3, and tiles of both kinds of numbers.
func TestG4WindowMap(t *testing.T) {
	for control, want := range map[int]string{
		0x91 | 0x20:        "0022" + "0022113311111111",
		0x91 | 0x60:        "0022" + "2222222200221133",
		0x91 | 0x20 | 0x08: "2222" + "0022113311111111",
		0x91 | 0x60 | 0x08: "2222" + "2222222200221133",
		0x81 | 0x20:        "1111" + "1111111111111111",
		0x81 | 0x60 | 0x08: "2222" + "2222222211111111",
	} {
		p := tiled()
		write(p, wx, 11)
		shows(t, "G4", "maps", drawn(t, p, control), 0, 0, want)
	}
}

// TestG4WindowStill: SCX and SCY do not move it.
func TestG4WindowStill(t *testing.T) {
	p := counted()
	write(p, wx, 7, scx, 77, scy, 99)
	frame := drawn(t, p, 0xf1)
	for y := range 144 {
		rowsAre(t, "moved", frame, 0, y, y)
	}
}
