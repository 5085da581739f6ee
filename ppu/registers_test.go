package ppu_test

import (
	"math"
	"slices"
	"testing"

	"arcade/ppu"
)

// TestG1New: what is there at the start.
func TestG1New(t *testing.T) {
	p := ppu.New()
	reads(t, "G1", p, lcdc, 145, stat, 128+4+2, scy, 0, scx, 0, ly, 0, lyc, 0, dma, 255, bgp, 252, obp0, 255, obp1, 255, wy, 0, wx, 0)
	stands(t, "G1", p, 0, 0)
	for address := -10; address < 65600; address++ {
		want := 255
		if address >= vram && address < vramEnd || address >= oam && address < oamEnd {
			want = 0
		}
		if v := p.Memory(address); v != want {
			t.Fatalf("G1: Memory(%#x) = %d of a new one, want %d", address, v, want)
		}
	}
	if frame := p.Frame(); len(frame) != points || slices.Max(frame) != 0 {
		t.Errorf("G1: the frame of a new one is not all 0")
	}
}

// TestG1EachValue: each value written to each register, in each mode: it is read back, and no other register changes.
func TestG1EachValue(t *testing.T) {
	for _, m := range moments {
		p := busy(t, m[0], m[1])
		for v := range 256 {
			for _, address := range []int{scy, scx, bgp, obp0, obp1, wy, wx} {
				want := seen(p)
				want[2+address-lcdc] = v
				p.Write(address, v)
				if got := seen(p); !slices.Equal(got, want) {
					t.Fatalf("G1: Write(%#x, %d) at %v: %v, want %v", address, v, m, got, want)
				}
			}
			p.Write(lyc, v)
			p.Write(stat, v)
			want := 128 | v&0x78 | modeAt(m[0], m[1])
			if v == m[0] {
				want |= 4
			}
			reads(t, "G1", p, lyc, v, stat, want)
			p.Write(ly, v)
			p.Write(dma, v)
			reads(t, "G1", p, ly, m[0], dma, 255, lyc, v, stat, want)
			stands(t, "G1", p, m[0], m[1])
		}
	}
}

// TestG1Control: each value of LCDC, from each of some others, is read back, and changes no other register.
func TestG1Control(t *testing.T) {
	for was := range 256 {
		p := ppu.New()
		write(p, scy, 1, scx, 2, lyc, 3, bgp, 4, obp0, 5, obp1, 6, wy, 7, wx, 8, stat, 0x50)
		for is := range 256 {
			p.Write(lcdc, was)
			p.Write(lcdc, is)
			mode := is >> 7 * 2
			reads(t, "G1", p, lcdc, is, stat, 128+0x50+mode, scy, 1, scx, 2, ly, 0, lyc, 3, dma, 255, bgp, 4, obp0, 5, obp1, 6, wy, 7, wx, 8)
		}
	}
}

// TestG1Cut: numbers beyond a byte are cut to one, at each place that is written.
func TestG1Cut(t *testing.T) {
	p := dark()
	for _, v := range append([]int{256, 257, 511, 512, 1000, 65535, -2, -128, -129, -255}, far...) {
		cut := ((v % 256) + 256) % 256
		for _, address := range []int{scy, scx, lyc, bgp, obp0, obp1, wy, wx, vram, vramEnd - 1, oam, oamEnd - 1} {
			p.Write(address, v)
			reads(t, "G1", p, address, cut)
		}
		p.Write(stat, v)
		reads(t, "G1", p, stat, 128|cut&0x78|btoi(cut == 0)<<2)
		p.Write(lcdc, v&^128)
		reads(t, "G1", p, lcdc, cut&^128)
		p.Dma(77, v)
		if got := p.Memory(oam + 77); got != cut {
			t.Errorf("G1: Dma(77, %d): %d, want %d", v, got, cut)
		}
	}
	p.Write(lcdc, 256+0x91)
	reads(t, "G1", p, lcdc, 0x91)
	stands(t, "G1", p, 0, 0)
}

func btoi(b bool) int {
	if b {
		return 1
	}
	return 0
}

// TestG1EachByte: each byte of memory is a byte of its own.
func TestG1EachByte(t *testing.T) {
	p := dark()
	all := slices.Concat(span(vram, vramEnd), span(oam, oamEnd))
	for round := range 3 {
		value := func(address int) int { return (address*31 + address/256*7 + round*85) % 256 }
		for _, address := range all {
			p.Write(address, value(address))
		}
		for _, address := range all {
			if v, m := p.Read(address), p.Memory(address); v != value(address) || m != v {
				t.Fatalf("G1: Read(%#x) = %d, Memory %d, want %d", address, v, m, value(address))
			}
		}
	}
}

func span(from, to int) []int {
	var list []int
	for address := from; address < to; address++ {
		list = append(list, address)
	}
	return list
}

// TestG1Nothing: at all other addresses 255 is read, and a write does nothing, in each mode.
func TestG1Nothing(t *testing.T) {
	for _, m := range [][2]int{{0, 0}, {5, 80}, {5, 252}, {150, 100}} {
		p, q := busy(t, m[0], m[1]), busy(t, m[0], m[1])
		none := func(address int) {
			t.Helper()
			for _, v := range []int{0, 145, 255, -1, 300} {
				p.Write(address, v)
			}
			if v, b := p.Read(address), p.Memory(address); v != 255 || b != 255 {
				t.Fatalf("G1: Read(%d) = %d, Memory %d, want 255", address, v, b)
			}
		}
		for address := -70000; address < 140000; address++ {
			if address >= vram && address < vramEnd || address >= oam && address < oamEnd || address >= lcdc && address <= last && address != dma {
				continue
			}
			none(address)
		}
		for _, address := range far {
			none(address)
		}
		if !same(p, q) {
			t.Errorf("G1: changed by writes to addresses of nothing, at %v", m)
		}
	}
}

// locks writes and reads at both ends of both memories.
func locks(t *testing.T, p *ppu.PPU, where string, value int, vramLocked, oamLocked bool) {
	t.Helper()
	for address, locked := range map[int]bool{vram: vramLocked, vram + 5000: vramLocked, vramEnd - 1: vramLocked, oam: oamLocked, oam + 80: oamLocked, oamEnd - 1: oamLocked} {
		was := p.Memory(address)
		p.Write(address, value)
		is, read := p.Memory(address), p.Read(address)
		if locked && (is != was || read != 255) || !locked && (is != value || read != value) {
			t.Fatalf("G1: at %s: Write(%#x, %d) over %d: Memory %d, Read %d; locked: %v", where, address, value, was, is, read, locked)
		}
	}
}

// TestG1Locked: VRAM in mode 3 alone, OAM in modes 2 and 3, at each clock of some lines.
func TestG1Locked(t *testing.T) {
	for _, line := range []int{0, 1, 77, 143, 144, 145, 153} {
		p := at(t, ppu.New(), line, 0)
		for clock := 0; clock < 456; clock += 4 {
			mode := modeAt(line, clock)
			stands(t, "G1", p, line, clock)
			locks(t, p, "a line", (clock/4+line)%251, mode == 3, mode == 2 || mode == 3)
			p.Tick()
		}
	}
}

// TestG1Open: nothing is locked while all is off.
func TestG1Open(t *testing.T) {
	for _, m := range moments {
		p := busy(t, m[0], m[1])
		p.Write(lcdc, 0x73)
		locks(t, p, "off", 200, false, false)
		ticks(p, 40)
		locks(t, p, "off", 201, false, false)
		p.Write(lcdc, 0xf3)
		locks(t, p, "on again", 202, false, true)
		ticks(p, 20)
		locks(t, p, "on again", 203, true, true)
	}
}

// TestG1RegistersOpen: registers are never locked.
func TestG1RegistersOpen(t *testing.T) {
	for _, m := range moments {
		p := busy(t, m[0], m[1])
		for i, address := range plain {
			p.Write(address, 128+i)
			reads(t, "G1", p, address, 128+i)
		}
	}
}

// TestG1Memory: Memory tells each byte, and nothing else, whatever the mode.
func TestG1Memory(t *testing.T) {
	for _, m := range moments {
		p := busy(t, m[0], m[1])
		for address := -300; address < 66000; address++ {
			want := 255
			switch {
			case address >= vram && address < vramEnd:
				i := address - vram
				want = (i*7 + i/64) % 256
			case address >= oam && address < oamEnd:
				i := (address - oam) / 4
				want = [4]int{10 + 4*i, 5 + 37*i%170, 3 * i, 29 * i}[address%4] % 256
			}
			if v := p.Memory(address); v != want {
				t.Fatalf("G1: Memory(%#x) = %d at %v, want %d", address, v, m, want)
			}
		}
		for _, address := range far {
			if v := p.Memory(address); v != 255 {
				t.Fatalf("G1: Memory(%d) = %d", address, v)
			}
		}
	}
}

// TestG1Dma: each byte of the table, whatever the mode; nothing beside it.
func TestG1Dma(t *testing.T) {
	for _, m := range moments {
		p, q := busy(t, m[0], m[1]), busy(t, m[0], m[1])
		for _, i := range append([]int{-1, -2, 160, 161, 255, 256, 8192, oam, vram, math.MaxInt}, far...) {
			p.Dma(i, 99)
			p.Dma(i, -1)
		}
		if !same(p, q) {
			t.Fatalf("G1: Dma beside the table changes something, at %v", m)
		}
		for i := range 160 {
			p.Dma(i, 3*i+1)
		}
		for i := range 160 {
			if v := p.Memory(oam + i); v != (3*i+1)%256 {
				t.Fatalf("G1: Dma(%d, %d): %d, at %v", i, 3*i+1, v, m)
			}
		}
		if !slices.Equal(seen(p), seen(q)) || !slices.Equal(p.Frame(), q.Frame()) || p.Memory(vram) != q.Memory(vram) || p.Memory(vramEnd-1) != q.Memory(vramEnd-1) {
			t.Fatalf("G1: Dma changes more than the table, at %v", m)
		}
	}
}

// TestG1Asked: to ask changes nothing.
func TestG1Asked(t *testing.T) {
	for _, m := range moments {
		p, q := busy(t, m[0], m[1]), busy(t, m[0], m[1])
		for range 130 {
			for _, address := range []int{vram, oam, lcdc, stat, ly, dma, wx, 0, -1, 1 << 20} {
				p.Read(address)
				p.Memory(address)
			}
			p.Line()
			p.Frame()
			p.State()
			if p.Tick() != q.Tick() {
				t.Fatalf("G3: questions change what is asked for")
			}
		}
		if !same(p, q) {
			t.Errorf("G1: changed by questions, from %v on", m)
		}
	}
}

// TestG1Apart: two pictures have nothing to do with one another.
func TestG1Apart(t *testing.T) {
	p, fresh := ppu.New(), ppu.New().State()
	busy(t, 50, 100)
	q := loaded(t, busy(t, 50, 100).State())
	was := q.State()
	write(p, lcdc, 0, vram, 1, oam, 2, lcdc, 0x93)
	ticks(p, aFrame)
	if !slices.Equal(q.State(), was) || !slices.Equal(ppu.New().State(), fresh) {
		t.Error("G1: a picture changes others")
	}
}
