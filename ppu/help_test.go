package ppu_test

import (
	"math"
	"slices"
	"testing"

	"arcade/api"
	"arcade/ppu"
)

// The addresses.
const (
	vram     = 0x8000
	vramEnd  = 0xa000
	lowMap   = 0x9800
	highMap  = 0x9c00
	oam      = 0xfe00
	oamEnd   = 0xfea0
	lcdc     = 0xff40
	stat     = 0xff41
	scy      = 0xff42
	scx      = 0xff43
	ly       = 0xff44
	lyc      = 0xff45
	dma      = 0xff46
	bgp      = 0xff47
	obp0     = 0xff48
	obp1     = 0xff49
	wy       = 0xff4a
	wx       = 0xff4b
	last     = 0xff4b
	points   = 160 * 144
	aLine    = 114   // Ticks
	toBlank  = 16416 // Ticks from a frame's beginning until line 144 begins
	aFrame   = 17556 // Ticks
	straight = 0xe4  // colours: each number itself
)

// plain are the registers that are read as they were written.
var plain = []int{lcdc, scy, scx, lyc, bgp, obp0, obp1, wy, wx}

// far are numbers that are beyond all bounds.
var far = []int{math.MinInt, math.MinInt + lcdc, math.MinInt32, -65536, -lcdc, -32768, -257, -256, -1, 1<<32 + vram, 1<<32 + oam, 1<<32 + lcdc, 1<<40 + bgp, 65536 + vram, 65536 + oam, 65536 + lcdc, math.MaxInt32, math.MaxInt - 255, math.MaxInt}

// moments are places of a frame, as a line and a clock: the first and last of each mode, at the edges of the picture and in its midst.
var moments = [][2]int{{0, 0}, {0, 76}, {0, 80}, {0, 248}, {0, 252}, {0, 452}, {1, 0}, {1, 80}, {71, 4}, {71, 160}, {71, 300}, {143, 76}, {143, 80}, {143, 248}, {143, 252}, {143, 452}, {144, 0}, {144, 80}, {144, 252}, {144, 452}, {150, 228}, {153, 0}, {153, 452}}

// modeAt tells the mode, by the chapter's words.
func modeAt(line, clock int) int {
	switch {
	case line > 143:
		return 1
	case clock < 80:
		return 2
	case clock < 80+172:
		return 3
	}
	return 0
}

// ticks lets so many go by; it tells all that was asked for.
func ticks(p *ppu.PPU, many int) int {
	asked := 0
	for range many {
		asked |= p.Tick()
	}
	return asked
}

// at lets a picture that is at a frame's beginning go on to a line and its clock.
func at(t *testing.T, p *ppu.PPU, line, clock int) *ppu.PPU {
	t.Helper()
	ticks(p, line*aLine+clock/4)
	stands(t, "G2", p, line, clock)
	return p
}

// stands tells whether a picture that is on is at a line and a clock, with its mode.
func stands(t *testing.T, which string, p *ppu.PPU, line, clock int) {
	t.Helper()
	l, c := p.Line()
	if mode := p.Read(stat) & 3; l != line || c != clock || p.Read(ly) != line || mode != modeAt(line, clock) {
		t.Fatalf("%s: Line() = %d, %d, LY %d, mode %d, want %d, %d, mode %d", which, l, c, p.Read(ly), mode, line, clock, modeAt(line, clock))
	}
}

// write has an address and a value each.
func write(p *ppu.PPU, list ...int) {
	for pair := range slices.Chunk(list, 2) {
		p.Write(pair[0], pair[1])
	}
}

// reads has an address and what is read there each.
func reads(t *testing.T, which string, p *ppu.PPU, list ...int) {
	t.Helper()
	for pair := range slices.Chunk(list, 2) {
		if v := p.Read(pair[0]); v != pair[1] {
			t.Errorf("%s: Read(%#x) = %d, want %d", which, pair[0], v, pair[1])
		}
	}
}

// fill writes bytes from an address on.
func fill(p *ppu.PPU, address int, list ...int) {
	for i, v := range list {
		p.Write(address+i, v)
	}
}

// dark is a picture that is off, with straight colours.
func dark() *ppu.PPU {
	p := ppu.New()
	write(p, lcdc, 0, bgp, straight, obp0, straight, obp1, straight)
	return p
}

// drawn switches it on, and tells the frame that comes of it.
func drawn(t *testing.T, p *ppu.PPU, control int) []byte {
	t.Helper()
	p.Write(lcdc, control)
	stands(t, "G2", p, 0, 0)
	ticks(p, toBlank-1)
	if asked := p.Tick(); asked&1 == 0 {
		t.Fatalf("G3: line 144 begins, asked for %d", asked)
	}
	frame := p.Frame()
	if len(frame) != points {
		t.Fatalf("G5: the frame has %d points", len(frame))
	}
	return frame
}

// row is a row of a frame, as digits.
func row(frame []byte, y int) string {
	digits := slices.Clone(frame[y*160 : y*160+160])
	for i := range digits {
		digits[i] += '0'
	}
	return string(digits)
}

// shows compares some points of a row, from x on.
func shows(t *testing.T, which, what string, frame []byte, x, y int, want string) {
	t.Helper()
	if got := row(frame, y)[x : x+len(want)]; got != want {
		t.Errorf("%s: %s: from %d, %d on: %s, want %s", which, what, x, y, got, want)
	}
}

// seen is all that a picture tells, but for its memory and frame.
func seen(p *ppu.PPU) []int {
	line, clock := p.Line()
	told := []int{line, clock}
	for address := lcdc; address <= last; address++ {
		told = append(told, p.Read(address))
	}
	return told
}

// same tells whether two are alike, now.
func same(p, q *ppu.PPU) bool {
	return slices.Equal(p.State(), q.State()) && slices.Equal(p.Frame(), q.Frame()) && slices.Equal(seen(p), seen(q))
}

// busy is a picture in the midst of a frame behind others, with the window and sprites there.
func busy(t *testing.T, line, clock int) *ppu.PPU {
	t.Helper()
	p := dark()
	for i := range vramEnd - vram {
		p.Write(vram+i, i*7+i/64)
	}
	for i := range 40 {
		fill(p, oam+4*i, 10+4*i, 5+37*i%170, 3*i, 29*i)
	}
	write(p, scy, 3, scx, 5, lyc, 17, bgp, 0x1b, obp0, 0x93, wy, 1, wx, 30, stat, 0x48)
	drawn(t, p, 0xf3)
	ticks(p, aFrame-toBlank)
	return at(t, p, line, clock)
}

// loaded is a picture of a state.
func loaded(t *testing.T, state []byte) *ppu.PPU {
	t.Helper()
	p := ppu.New()
	if e := p.Load(state); e != api.OK {
		t.Fatalf("G6: Load = %d", e)
	}
	return p
}

// roomy is a list with spare room, all of it filled.
func roomy(list []byte) []byte {
	long := append(slices.Clone(list), slices.Repeat([]byte{0xa5}, 40)...)
	return long[:len(list)]
}

// spared tells whether a roomy list is as it was, its room too.
func spared(list, was []byte) bool {
	return slices.Equal(list, was) && slices.Equal(list[len(list):len(list)+40], slices.Repeat([]byte{0xa5}, 40))
}

// scratch writes over a list and its spare room.
func scratch(list []byte) {
	whole := list[:cap(list)]
	for i := range whole {
		whole[i] ^= 0xff
	}
}
