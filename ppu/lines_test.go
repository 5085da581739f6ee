package ppu_test

import (
	"slices"
	"testing"

	"arcade/ppu"
)

// TestG2Examples: those of the chapter.
func TestG2Examples(t *testing.T) {
	p := ppu.New()
	ticks(p, 20)
	stands(t, "G2", p, 0, 80)
	reads(t, "G2", p, stat, 135)
	ticks(p, 43)
	reads(t, "G2", p, stat, 132)
	ticks(p, 51)
	stands(t, "G2", p, 1, 0)
	reads(t, "G2", p, stat, 130)
	p = ppu.New()
	if asked := ticks(p, 16415); asked != 0 {
		t.Errorf("G3: asked for %d ahead of line 144", asked)
	}
	if asked := p.Tick(); asked != 1 {
		t.Errorf("G3: line 144 begins: %d, want 1", asked)
	}
	p = ppu.New()
	write(p, lyc, 1, stat, 64)
	if asked := ticks(p, 113); asked != 0 {
		t.Errorf("G3: asked for %d ahead of line 1", asked)
	}
	if asked := p.Tick(); asked != 2 {
		t.Errorf("G3: line 1 begins: %d, want 2", asked)
	}
	p = ppu.New()
	for address := vram; address < vramEnd; address++ {
		p.Write(address, 255)
	}
	p.Write(bgp, 228)
	ticks(p, toBlank)
	if frame := p.Frame(); slices.Min(frame) != 3 {
		t.Error("G4: the frame is not all 3")
	}
}

// TestG2Lines: each clock of each line of some frames: the line, its clock, its mode.
func TestG2Lines(t *testing.T) {
	p := ppu.New()
	for range 3 {
		for line := range 154 {
			for clock := 0; clock < 456; clock += 4 {
				stands(t, "G2", p, line, clock)
				p.Tick()
			}
		}
	}
}

// TestG2Edges: the first and the last clock of each mode, written out.
func TestG2Edges(t *testing.T) {
	for _, line := range []int{0, 1, 100, 143} {
		p := at(t, ppu.New(), line, 0)
		for _, c := range [][3]int{{0, 0, 2}, {19, 76, 2}, {1, 80, 3}, {42, 248, 3}, {1, 252, 0}, {50, 452, 0}} {
			ticks(p, c[0])
			if l, clock := p.Line(); l != line || clock != c[1] || p.Read(stat)&3 != c[2] {
				t.Errorf("G2: line %d: at %d, %d, mode %d, want %d, mode %d", line, l, clock, p.Read(stat)&3, c[1], c[2])
			}
		}
		p.Tick()
		if l, clock := p.Line(); l != line+1 || clock != 0 {
			t.Errorf("G2: behind line %d: %d, %d", line, l, clock)
		}
	}
	p := at(t, ppu.New(), 153, 452)
	p.Tick()
	stands(t, "G2", p, 0, 0)
	reads(t, "G2", p, stat, 134)
}

// TestG2Off: bit 7 written 0 holds at once, whatever was going on, and nothing goes on then.
func TestG2Off(t *testing.T) {
	for _, m := range moments {
		for _, control := range []int{0, 0x11, 0x73, 0x7f} {
			p := busy(t, m[0], m[1])
			if slices.Max(p.Frame()) == 0 {
				t.Fatal("G5: there is no frame that could be cleared")
			}
			p.Write(lcdc, control)
			for range 2 {
				if line, clock := p.Line(); line != 0 || clock != 0 || slices.Max(p.Frame()) != 0 {
					t.Fatalf("G2: off at %v: Line() = %d, %d, or a frame that is not 0", m, line, clock)
				}
				reads(t, "G2", p, lcdc, control, stat, 128+0x48, ly, 0, vram, 0, oam, 10)
				was := p.State()
				if asked := ticks(p, aFrame+100); asked != 0 || !slices.Equal(p.State(), was) {
					t.Fatalf("G2: off: Tick asks for %d, or changes something", asked)
				}
			}
		}
	}
}

// TestG2On: bit 7 written 1 where it was 0 begins a frame, as a new picture does.
func TestG2On(t *testing.T) {
	for _, m := range moments {
		p, q := busy(t, m[0], m[1]), dark()
		p.Write(lcdc, 0)
		for i := range vramEnd - vram {
			q.Write(vram+i, p.Read(vram+i))
		}
		for i := range oamEnd - oam {
			q.Write(oam+i, p.Read(oam+i))
		}
		for _, address := range plain {
			q.Write(address, p.Read(address))
		}
		q.Write(stat, p.Read(stat))
		ticks(p, 7)
		p.Write(lcdc, 0xf3)
		q.Write(lcdc, 0xf3)
		stands(t, "G2", p, 0, 0)
		for n := range aFrame + aLine {
			if a, b := p.Tick(), q.Tick(); a != b {
				t.Fatalf("G2: on again: Tick %d asks for %d, want %d", n, a, b)
			}
		}
		if !same(p, q) {
			t.Fatalf("G2: switched off at %v and on again, it is not as a new one", m)
		}
	}
}

// TestG2Stays: LCDC written with bit 7 as it was lets the time go on, and leaves the frame.
func TestG2Stays(t *testing.T) {
	for _, m := range moments {
		p := busy(t, m[0], m[1])
		was := p.Frame()
		for _, control := range []int{0x80, 0xff, 0x91, 0xf3} {
			p.Write(lcdc, control)
			stands(t, "G2", p, m[0], m[1])
			if !slices.Equal(p.Frame(), was) {
				t.Fatalf("G2: Write(LCDC, %d) at %v changes the frame", control, m)
			}
		}
		q := busy(t, m[0], m[1])
		if !same(p, q) {
			t.Errorf("G2: LCDC written, and written back, at %v: not as without that", m)
		}
	}
}

// TestG2OffTwice: bit 7 written 0 where it was 0, and 1 where it was 1, begins nothing.
func TestG2OffTwice(t *testing.T) {
	p := dark()
	write(p, lcdc, 0x91, lcdc, 0x91)
	ticks(p, 300)
	p.Write(lcdc, 0x91)
	stands(t, "G2", p, 2, 4*(300-2*aLine))
	write(p, lcdc, 0x11, lcdc, 0x31, lcdc, 0)
	p.Tick()
	p.Write(lcdc, 0x80)
	stands(t, "G2", p, 0, 0)
	p.Tick()
	stands(t, "G2", p, 0, 4)
}
