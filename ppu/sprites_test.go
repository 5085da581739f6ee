package ppu_test

import (
	"strings"
	"testing"

	"arcade/ppu"
)

// cast is a dark picture with tiles for sprites: 1 as in tiled; 2 all 3, but 3 below it with rows 1 and 2 by turns; 4 all 1; 6 all 2; 8 with its left half 3. Sprites are given four bytes each.
func cast(sprites ...int) *ppu.PPU {
	p := dark()
	fill(p, vram+16, 0x0f, 0x33, 0x80, 0x00, 0x00, 0x01, 0xff, 0xff, 0x55, 0x00, 0x00, 0xaa, 0xf0, 0xf0, 0x18, 0x3c)
	for i := range 8 {
		fill(p, vram+16*2+2*i, 255, 255)
		fill(p, vram+16*3+2*i, 255-i%2*255, i%2*255)
		fill(p, vram+16*4+2*i, 255, 0)
		fill(p, vram+16*6+2*i, 0, 255)
		fill(p, vram+16*8+2*i, 0xf0, 0xf0)
	}
	fill(p, oam, sprites...)
	return p
}

// TestG4Sprite: one, at the corner, with each set of flags for turning it over and mirroring it.
func TestG4Sprite(t *testing.T) {
	rows := []string{"00221133", "10000000", "00000002", "33333333", "01010101", "20202020", "33330000", "00233200"}
	turned := []string{"33112200", "00000001", "20000000", "33333333", "10101010", "02020202", "00003333", "00233200"}
	for i := range 8 {
		shows(t, "G4", "as it is", drawn(t, cast(16, 8, 1, 0), 0x92), 0, i, rows[i]+"00000000")
		shows(t, "G4", "upside down", drawn(t, cast(16, 8, 1, 0x40), 0x92), 0, i, rows[7-i]+"00000000")
		shows(t, "G4", "mirrored", drawn(t, cast(16, 8, 1, 0x20), 0x92), 0, i, turned[i]+"00000000")
		shows(t, "G4", "both", drawn(t, cast(16, 8, 1, 0x60), 0x92), 0, i, turned[7-i]+"00000000")
	}
	shows(t, "G4", "the row below", drawn(t, cast(16, 8, 2, 0), 0x92), 0, 8, digits("0", 160))
}

// TestG4HighSprite: 16 rows of two tiles, upside down all together; the tile's lowest bit does not count.
func TestG4HighSprite(t *testing.T) {
	for _, tile := range []int{2, 3} {
		frame := drawn(t, cast(16, 8, tile, 0, 16, 24, tile, 0x40, 16, 40, tile, 0x60), 0x96)
		for y := range 8 {
			upper, lower := digits("3", 8), digits(string(rune('1'+y%2)), 8)
			turned := digits(string(rune('2'-y%2)), 8)
			gap := digits("0", 8)
			shows(t, "G4", "the upper half", frame, 0, y, upper+gap+turned+gap+turned+gap)
			shows(t, "G4", "the lower half", frame, 0, 8+y, lower+gap+upper+gap+upper+gap)
		}
		shows(t, "G4", "below it", frame, 0, 16, digits("0", 160))
	}
	frame := drawn(t, cast(16, 8, 1, 0x60), 0x96) // tiles 0 and 1
	shows(t, "G4", "turned and mirrored, its first row", frame, 0, 0, "00233200")
	shows(t, "G4", "turned and mirrored, row 7", frame, 0, 7, "33112200")
	shows(t, "G4", "turned and mirrored, tile 0", frame, 0, 8, "00000000")
	frame = drawn(t, cast(16, 8, 255, 0), 0x96)
	shows(t, "G4", "the last tile", frame, 0, 8, "00000000")
}

// TestG4EachRow: each row byte: the lines that have it, of low and of high ones.
func TestG4EachRow(t *testing.T) {
	for _, high := range []int{8, 16} {
		control := 0x92
		if high == 16 {
			control = 0x96
		}
		for first := range 256 {
			p := cast(first, 8, 2, 0)
			write(p, obp0, 0xfc)
			frame := drawn(t, p, control)
			for y := range 144 {
				want := y+16 >= first && y+16 < first+high
				if got := frame[y*160] != 0; got != want {
					t.Fatalf("G4: row byte %d, %d high: line %d has it: %v", first, high, y, got)
				}
			}
		}
	}
}

// TestG4EachColumn: each column byte: the points that have it.
func TestG4EachColumn(t *testing.T) {
	for first := range 256 {
		frame := drawn(t, cast(16, first, 4, 0, 17, first, 1, 0), 0x92)
		for x := range 160 {
			want := byte(btoi(x+8 >= first && x < first))
			if frame[x] != want {
				t.Fatalf("G4: column byte %d: point %d is %d", first, x, frame[x])
			}
		}
	}
	shows(t, "G4", "at the left", drawn(t, cast(16, 3, 1, 0), 0x92), 0, 0, "1330")
	shows(t, "G4", "at the left, mirrored", drawn(t, cast(16, 5, 1, 0x20), 0x92), 0, 0, "122000")
	shows(t, "G4", "at the right", drawn(t, cast(16, 165, 1, 0), 0x92), 154, 0, "000002")
	shows(t, "G4", "its last row alone", drawn(t, cast(9, 8, 1, 0), 0x92), 0, 0, "00233200")
	shows(t, "G4", "its first row alone", drawn(t, cast(159, 8, 1, 0), 0x92), 0, 143, "00221133")
}

// TestG4EachSpriteTile: tiles are from 32768 on, whatever bit 4.
func TestG4EachSpriteTile(t *testing.T) {
	for _, control := range []int{0x92, 0x82} {
		for tile := range 256 {
			p := dark()
			for i := range 384 {
				fill(p, vram+16*i, i%256, 255*btoi(i > 255))
			}
			fill(p, oam, 16, 8, tile, 0)
			p.Write(lcdc, control)
			ticks(p, toBlank)
			want := ""
			for bit := 7; bit >= 0; bit-- {
				want += string(rune('0' + tile>>bit&1))
			}
			shows(t, "G4", "a sprite's tile", p.Frame(), 0, 0, want)
		}
	}
}

// TestG4SpriteColours: OBP0, or OBP1 by flag 4; the number 0 is none, whatever its colour.
func TestG4SpriteColours(t *testing.T) {
	for colours := range 256 {
		p := cast(16, 8, 1, 0, 16, 24, 1, 0x10, 16, 40, 1, 0x1f)
		write(p, obp0, colours, obp1, 255-colours, bgp, 2, lcdc, 0x92)
		ticks(p, toBlank)
		want := ""
		for _, c := range []int{colours, 255 - colours, 255 - colours} {
			for _, number := range []int{0, 0, 2, 2, 1, 1, 3, 3} {
				if number == 0 {
					want += "2"
				} else {
					want += string(rune('0' + c>>(2*number)&3))
				}
			}
			want += digits("2", 8)
		}
		shows(t, "G4", "colours of sprites", p.Frame(), 0, 0, want)
	}
}

// TestG4SpritesOff: without bit 1 there are none.
func TestG4SpritesOff(t *testing.T) {
	frame := drawn(t, cast(16, 8, 2, 0), 0x95)
	shows(t, "G4", "without bit 1", frame, 0, 0, digits("0", 160))
}

// side is so many sprites of one row, side by side, of tile 4.
func side(many, row, column int) []int {
	var list []int
	for i := range many {
		list = append(list, row, column+8*i, 4, 0)
	}
	return list
}

// TestG4Ten: ten a line, the first ones of the table, whatever their columns.
func TestG4Ten(t *testing.T) {
	for many := range 15 {
		frame := drawn(t, cast(side(many, 16, 8)...), 0x92)
		seen := min(many, 10)
		shows(t, "G4", "side by side", frame, 0, 0, digits("1", 8*seen)+digits("0", 160-8*seen))
	}
	for _, column := range []int{0, 168, 200, 255} { // ten that are not seen
		var list []int
		for range 10 {
			list = append(list, 16, column, 4, 0)
		}
		shows(t, "G4", "behind ten that are beyond the edge", drawn(t, cast(append(list, 16, 8, 4, 0)...), 0x92), 0, 0, digits("0", 160))
		shows(t, "G4", "behind nine of them", drawn(t, cast(append(list[4:], 16, 8, 4, 0)...), 0x92), 0, 0, "11111111"+digits("0", 152))
	}
	list := append(side(10, 16, 80), 16, 8, 4, 0) // the eleventh has the least column
	shows(t, "G4", "the eleventh", drawn(t, cast(list...), 0x92), 0, 0, digits("0", 72)+digits("1", 80)+"00000000")
	list = append(side(10, 16, 80), 17, 8, 4, 0)
	frame := drawn(t, cast(list...), 0x92)
	shows(t, "G4", "the eleventh, line 0", frame, 0, 0, "00000000")
	shows(t, "G4", "the eleventh, line 7", frame, 0, 7, "00000000")
	shows(t, "G4", "the eleventh, line 8", frame, 0, 8, "11111111")
	frame = drawn(t, cast(list...), 0x96)
	shows(t, "G4", "the eleventh of high ones, line 15", frame, 0, 15, "00000000")
	shows(t, "G4", "the eleventh of high ones, line 16", frame, 0, 16, digits("0", 8)) // tile 5 is all 0
	list = append(side(10, 16, 80), 24, 8, 4, 0)
	shows(t, "G4", "of another line", drawn(t, cast(list...), 0x92), 0, 8, "11111111")
	var empty []int
	for range 10 {
		empty = append(empty, 16, 8, 5, 0)
	}
	shows(t, "G4", "behind ten of which nothing is seen", drawn(t, cast(append(empty, 16, 8, 4, 0)...), 0x92), 0, 0, "00000000")
}

// TestG4LastOfTable: the last of the table counts, alone or as the tenth.
func TestG4LastOfTable(t *testing.T) {
	p := cast()
	fill(p, oamEnd-4, 16, 8, 4, 0)
	shows(t, "G4", "the last of the table", drawn(t, p, 0x92), 0, 0, "11111111")
	for _, ahead := range []int{9, 10} {
		p := cast(side(ahead, 16, 80)...)
		fill(p, oamEnd-4, 16, 8, 4, 0)
		shows(t, "G4", "the last of the table behind others", drawn(t, p, 0x92), 0, 0, digits(string(rune('0'+10-ahead)), 8))
	}
}

// TestG4Above: the least column is above, of one column the first of the table; what has the number 0 hides nothing.
func TestG4Above(t *testing.T) {
	for _, c := range []struct {
		what    string
		sprites []int
		want    string
	}{
		{"the lesser column, first in the table", []int{16, 8, 4, 0, 16, 12, 6, 0}, "111111112222"},
		{"the lesser column, last in the table", []int{16, 12, 6, 0, 16, 8, 4, 0}, "111111112222"},
		{"one column, the first is above", []int{16, 8, 4, 0, 16, 8, 6, 0}, "111111110000"},
		{"one column, the other way", []int{16, 8, 6, 0, 16, 8, 4, 0}, "222222220000"},
		{"through the number 0", []int{16, 8, 8, 0, 16, 8, 4, 0}, "333311110000"},
		{"through the number 0, mirrored", []int{16, 8, 8, 0x20, 16, 8, 4, 0}, "111133330000"},
		{"through two", []int{16, 8, 8, 0, 16, 9, 8, 0, 16, 10, 4, 0}, "333331111100"},
		{"at the left edge", []int{16, 4, 6, 0, 16, 3, 4, 0}, "111200000000"},
		{"three of one column", []int{16, 9, 2, 0, 16, 8, 5, 0, 16, 8, 4, 0, 16, 8, 6, 0}, "111111113000"},
		{"a high number of the column", []int{16, 166, 4, 0, 16, 8, 6, 0}, "222222220000"},
	} {
		shows(t, "G4", c.what, drawn(t, cast(c.sprites...), 0x92), 0, 0, c.want)
	}
}

// TestG4Behind: one with flag 7 is behind the background's numbers 1 to 3, and hides other sprites there all the same.
func TestG4Behind(t *testing.T) {
	for _, c := range []struct {
		what    string
		sprites []int
		want    string
	}{
		{"in front", []int{16, 8, 4, 0}, "11111111"},
		{"behind", []int{16, 8, 4, 0x80}, "11221133"},
		{"behind, and one in front below it", []int{16, 8, 4, 0x80, 16, 9, 6, 0}, "112211332"},
		{"behind, below one in front", []int{16, 8, 4, 0x80, 16, 7, 6, 0}, "222222230"},
		{"behind with the number 0, and one in front below it", []int{16, 8, 5, 0x80, 16, 8, 4, 0}, "11111111"},
		{"half of it behind", []int{16, 8, 8, 0x80, 16, 8, 6, 0}, "33222222"},
		{"both behind", []int{16, 8, 8, 0x80, 16, 8, 4, 0x80}, "33221133"},
	} {
		p := cast(c.sprites...)
		p.Write(lowMap, 1) // 00221133
		shows(t, "G4", c.what, drawn(t, p, 0x93), 0, 0, c.want)
	}
}

// TestG4BehindNumbers: it is the background's number that counts, not its colour; without bit 0 it is 0; the window's counts like the background's.
func TestG4BehindNumbers(t *testing.T) {
	p := cast(16, 8, 4, 0x80)
	write(p, lowMap, 1, bgp, 0x03) // 33000000
	shows(t, "G4", "colours turned round", drawn(t, p, 0x93), 0, 0, "11000000")
	p = cast(16, 8, 4, 0x80)
	write(p, lowMap, 1, bgp, 0xe6)
	shows(t, "G4", "without bit 0", drawn(t, p, 0x92), 0, 0, "1111111122")
	p = cast(16, 8, 4, 0x80)
	fill(p, lowMap, 2, 2)
	write(p, highMap, 1, wx, 7)
	shows(t, "G4", "over the window", drawn(t, p, 0xf3), 0, 0, "11221133")
	p = cast(16, 8, 4, 0x80)
	fill(p, highMap, 2, 2)
	write(p, lowMap, 1, wx, 11)
	shows(t, "G4", "half of it over the window", drawn(t, p, 0xf3), 0, 0, "11223333")
}

// TestG4OtherFlags: the four lowest flags mean nothing.
func TestG4OtherFlags(t *testing.T) {
	for flags := range 16 {
		shows(t, "G4", "flags", drawn(t, cast(16, 8, 1, flags), 0x92), 0, 0, "00221133"+digits("0", 152))
	}
}

// TestG4SpritesByLine: bit 2 and the table count as they are when a line is drawn.
func TestG4SpritesByLine(t *testing.T) {
	p := cast(16, 8, 2, 0)
	p.Write(lcdc, 0x92)
	at(t, p, 4, 248)
	p.Write(lcdc, 0x96)
	ticks(p, 6*aLine)
	p.Write(lcdc, 0x92)
	p.Tick()
	p.Dma(1, 16)
	ticks(p, 2)
	p.Dma(0, 16+12)
	ticks(p, toBlank-10*aLine-65)
	for y, want := range strings.Fields("3333333300 3333333300 3333333300 3333333300 3333333300 3333333300 3333333300 3333333300 1111111100 2222222200 0000000000 0000000000 0000000033 0000000033") {
		shows(t, "G4", "line by line", p.Frame(), 0, y, want)
	}
}
