package ppu_test

import (
	"slices"
	"testing"

	"arcade/ppu"
)

// lineOn tells, by the chapter's words, whether the STAT line is on at a place of a frame.
func lineOn(enabled, match, line, clock int) bool {
	mode := modeAt(line, clock)
	return enabled&64 != 0 && line == match || enabled&32 != 0 && mode == 2 || enabled&16 != 0 && mode == 1 || enabled&8 != 0 && mode == 0
}

// TestG3EachSet: each set of causes, with lines for LYC of all kinds: what each Tick of two frames answers.
func TestG3EachSet(t *testing.T) {
	for enabled := 0; enabled < 128; enabled += 8 {
		for _, match := range []int{0, 1, 70, 143, 144, 145, 153, 154, 255} {
			p := ppu.New()
			write(p, lyc, match, stat, enabled)
			was := lineOn(enabled, match, 0, 0)
			for n := 1; n <= 2*aFrame; n++ {
				line, clock := n/aLine%154, n%aLine*4
				is, want := lineOn(enabled, match, line, clock), 0
				if line == 144 && clock == 0 {
					want = 1
				}
				if is && !was {
					want += 2
				}
				if got := p.Tick(); got != want {
					t.Fatalf("G3: STAT %d, LYC %d: Tick to %d, %d answers %d, want %d", enabled, match, line, clock, got, want)
				}
				was = is
			}
		}
	}
}

// TestG3EachLine: LYC alone, each number: asked for where that line begins, and where there is no such line never.
func TestG3EachLine(t *testing.T) {
	for match := range 256 {
		p := ppu.New()
		write(p, lyc, match, stat, 64)
		var asked []int
		for n := 1; n <= aFrame; n++ {
			if p.Tick()&2 != 0 {
				asked = append(asked, n)
			}
		}
		want := []int{match * aLine}
		if match == 0 {
			want = []int{aFrame} // at the start the line is on already
		}
		if match > 153 {
			want = nil
		}
		if !slices.Equal(asked, want) {
			t.Errorf("G3: LYC %d: asked for behind %v Ticks, want %v", match, asked, want)
		}
	}
}

// asks has the Ticks ahead of one, which then answers this; none ahead of it asks for anything but 1.
func asks(t *testing.T, what string, p *ppu.PPU, ahead, want int) {
	t.Helper()
	if got := ticks(p, ahead); got&^1 != 0 {
		t.Errorf("G3: %s: asked for %d ahead of it", what, got)
	}
	if got := p.Tick(); got != want {
		line, clock := p.Line()
		t.Errorf("G3: %s: Tick to %d, %d answers %d, want %d", what, line, clock, got, want)
	}
}

// TestG3Causes: each cause, written out.
func TestG3Causes(t *testing.T) {
	p := ppu.New()
	write(p, stat, 8)
	asks(t, "mode 0 begins", p, 62, 2)
	asks(t, "mode 0 ends", p, 50, 0)
	asks(t, "mode 0 of the next line", p, 62, 2)
	p = at(t, ppu.New(), 143, 80)
	write(p, stat, 32)
	asks(t, "no mode 2 at line 144", p, 93, 1)
	asks(t, "mode 2 at line 0", p, 10*aLine-1, 2)
	asks(t, "mode 2 goes on", p, 0, 0)
	asks(t, "mode 2 of the next line", p, aLine-2, 2)
	p = at(t, ppu.New(), 143, 80)
	write(p, stat, 16)
	asks(t, "both, at line 144", p, 93, 3)
	asks(t, "mode 1 goes on", p, 10*aLine-2, 0)
	asks(t, "line 0", p, 0, 0)
	p = at(t, ppu.New(), 143, 80)
	write(p, lyc, 144, stat, 64)
	asks(t, "both, at line 144, by LYC", p, 93, 3)
	asks(t, "LYC at line 145", p, aLine-1, 0)
}

// TestG3AnotherCause: a line that is on already by another cause asks for nothing.
func TestG3AnotherCause(t *testing.T) {
	p := at(t, ppu.New(), 3, 80)
	write(p, stat, 8|32, lyc, 200)
	asks(t, "mode 0", p, 42, 2)
	asks(t, "mode 2 behind mode 0", p, 50, 0)
	asks(t, "mode 3", p, 19, 0)
	asks(t, "mode 0 again", p, 42, 2)
	p = at(t, ppu.New(), 142, 252)
	write(p, stat, 8|16, lyc, 200)
	asks(t, "mode 0 of line 143", p, 51+62, 2)
	asks(t, "mode 1 behind mode 0", p, 50, 1)
	p = at(t, ppu.New(), 2, 80)
	write(p, stat, 64|32|8, lyc, 3)
	asks(t, "mode 0", p, 42, 2)
	asks(t, "LYC and mode 2 behind mode 0", p, 50, 0)
	asks(t, "LYC alone in mode 3", p, 19, 0)
	asks(t, "LYC and mode 0", p, 42, 0)
	asks(t, "mode 2 of line 4", p, 50, 0)
	asks(t, "mode 3 of line 4", p, 19, 0)
	asks(t, "mode 0 of line 4", p, 42, 2)
	p = at(t, ppu.New(), 153, 452)
	write(p, stat, 16|32, lyc, 200)
	asks(t, "mode 2 behind mode 1", p, 0, 0)
	p = at(t, ppu.New(), 143, 452)
	write(p, stat, 64|16, lyc, 143)
	asks(t, "mode 1 behind LYC", p, 0, 1)
}

// TestG3Written: what a write does between two Ticks counts, and asks for nothing itself.
func TestG3Written(t *testing.T) {
	p := at(t, ppu.New(), 5, 100)
	write(p, lyc, 5, stat, 64)
	asks(t, "on by a write to STAT", p, 0, 0)
	write(p, lyc, 6)
	asks(t, "off by a write to LYC, in the line", p, 0, 0)
	write(p, lyc, 5)
	asks(t, "on by a write to LYC", p, 0, 0)
	asks(t, "mode 0 is not let", p, 43, 0)
	p = at(t, ppu.New(), 5, 248)
	write(p, lyc, 5, stat, 64|8)
	asks(t, "mode 0 comes to a line that is on by a write", p, 0, 0)
	p = at(t, ppu.New(), 5, 248)
	write(p, lyc, 5, stat, 64|8)
	p.Tick()
	p = at(t, ppu.New(), 5, 244)
	write(p, lyc, 5, stat, 64|8)
	asks(t, "on by a write", p, 0, 0)
	write(p, lyc, 6)
	asks(t, "off by a write, on by mode 0", p, 0, 2)
	write(p, stat, 0)
	write(p, stat, 8)
	asks(t, "off and on again between two Ticks", p, 0, 0)
	write(p, stat, 0)
	p.Tick()
	write(p, stat, 8)
	asks(t, "off for a Tick, and on again by a write", p, 0, 0)
	p = at(t, ppu.New(), 9, 452)
	write(p, lyc, 10, stat, 64)
	asks(t, "LYC written for the next line", p, 0, 2)
	p = at(t, ppu.New(), 9, 452)
	write(p, lyc, 9, stat, 64)
	write(p, lyc, 10)
	asks(t, "on by a write, off by the next one, on by the line", p, 0, 2)
	p = at(t, ppu.New(), 9, 452)
	write(p, lyc, 9, stat, 64|32)
	asks(t, "from LYC to mode 2", p, 0, 0)
}

// TestG3Off: off there is no line; switched on it may be on at once.
func TestG3Off(t *testing.T) {
	p := at(t, ppu.New(), 20, 300)
	write(p, stat, 0x78, lyc, 0, lcdc, 0x11)
	for range 3000 {
		if asked := p.Tick(); asked != 0 {
			t.Fatalf("G3: off: asked for %d", asked)
		}
	}
	reads(t, "G3", p, stat, 128+0x78+4)
	p.Write(lcdc, 0x91)
	asks(t, "on by the switch", p, 18, 0)
	asks(t, "LYC in mode 3", p, 0, 0)
	p = dark()
	write(p, stat, 32, lcdc, 0x91)
	asks(t, "mode 2 by the switch", p, 0, 0)
	p = dark()
	write(p, stat, 8, lcdc, 0x91)
	asks(t, "mode 0 while it was off does not count", p, 62, 2)
	p = dark()
	write(p, lyc, 1, stat, 64, lcdc, 0x91)
	asks(t, "line 1 behind the switch", p, 113, 2)
}

// TestG3Match: STAT's bit 2 is whether LY is LYC, at any time.
func TestG3Match(t *testing.T) {
	for _, m := range moments {
		p := busy(t, m[0], m[1])
		for v := range 256 {
			p.Write(lyc, v)
			if got := p.Read(stat)&4 != 0; got != (v == m[0]) {
				t.Fatalf("G3: LY %d, LYC %d: bit 2 %v", m[0], v, got)
			}
		}
		p.Write(lcdc, 0)
		for v := range 256 {
			p.Write(lyc, v)
			if got := p.Read(stat)&4 != 0; got != (v == 0) {
				t.Fatalf("G3: off, LYC %d: bit 2 %v", v, got)
			}
		}
	}
	p := ppu.New()
	p.Write(lyc, 2)
	for n := range 2 * aFrame {
		line := n / aLine % 154
		if got := p.Read(stat)&4 != 0; got != (line == 2) {
			t.Fatalf("G3: Tick %d, LYC 2: bit 2 %v", n, got)
		}
		p.Tick()
	}
}
