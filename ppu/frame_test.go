package ppu_test

import (
	"slices"
	"testing"

	"arcade/ppu"
)

// painted switches a picture on, and gives each line a colour of its own, by the frame's number.
func painted(p *ppu.PPU, number int) {
	for range 144 {
		line, _ := p.Line()
		p.Write(bgp, (line+number)%4)
		ticks(p, aLine)
	}
}

// isPainted tells whether a frame is as painted made it.
func isPainted(frame []byte, number int) bool {
	for i, point := range frame {
		if int(point) != (i/160+number)%4 {
			return false
		}
	}
	return len(frame) == points
}

// TestG5Frame: the frame is that of the time when line 144 began last: all 0 ahead of that, and not changed by what is drawn since.
func TestG5Frame(t *testing.T) {
	p := ppu.New()
	p.Write(bgp, 3)
	for n := range toBlank {
		if n%97 == 0 || n > toBlank-3 {
			if frame := p.Frame(); len(frame) != points || slices.Max(frame) != 0 {
				t.Fatalf("G5: behind %d Ticks the frame is not all 0", n)
			}
		}
		p.Tick()
	}
	if frame := p.Frame(); len(frame) != points || slices.Min(frame) != 3 {
		t.Fatal("G5: line 144 began: the frame is not all 3")
	}
	p.Write(bgp, 1)
	for n := range aFrame {
		if n%97 == 0 || n > aFrame-3 {
			if frame := p.Frame(); slices.Min(frame) != 3 {
				t.Fatalf("G5: %d Ticks behind line 144 the frame has changed", n)
			}
		}
		p.Tick()
	}
	if frame := p.Frame(); slices.Min(frame) != 1 || slices.Max(frame) != 1 {
		t.Fatal("G5: the second frame is not all 1")
	}
}

// TestG5Lines: each line of each frame is its own.
func TestG5Lines(t *testing.T) {
	p := ppu.New()
	for number := range 5 {
		painted(p, number)
		if !isPainted(p.Frame(), number) {
			t.Fatalf("G5: frame %d is not as it was painted", number)
		}
		ticks(p, 5*aLine)
		p.Write(bgp, 3)
		ticks(p, 5*aLine)
		if !isPainted(p.Frame(), number) {
			t.Fatalf("G5: frame %d is not as it was painted, at the next one's beginning", number)
		}
	}
}

// TestG5Off: since bit 7 was written 0 the frame is all 0, until line 144 begins anew.
func TestG5Off(t *testing.T) {
	for _, m := range moments {
		p := ppu.New()
		painted(p, 1)
		ticks(p, 10*aLine)
		at(t, p, m[0], m[1])
		p.Write(lcdc, 0x11)
		ticks(p, 100)
		write(p, bgp, 2, lcdc, 0x91)
		for n := range toBlank {
			if n%511 == 0 || n == toBlank-1 {
				if slices.Max(p.Frame()) != 0 {
					t.Fatalf("G5: off at %v, on again: behind %d Ticks the frame is not all 0", m, n)
				}
			}
			p.Tick()
		}
		if frame := p.Frame(); slices.Min(frame) != 2 || slices.Max(frame) != 2 {
			t.Fatalf("G5: off at %v, on again: the frame is not all 2", m)
		}
	}
}

// TestG5Line: what Line tells is where the Ticks have led.
func TestG5Line(t *testing.T) {
	p := ppu.New()
	for n := range aFrame + 5000 {
		if line, clock := p.Line(); line != n/aLine%154 || clock != n%aLine*4 {
			t.Fatalf("G5: behind %d Ticks Line() = %d, %d", n, line, clock)
		}
		p.Tick()
	}
	p.Write(lcdc, 0)
	for range 300 {
		if line, clock := p.Line(); line != 0 || clock != 0 {
			t.Fatalf("G5: off: Line() = %d, %d", line, clock)
		}
		p.Tick()
	}
}

// TestG5NewMemory: a frame that was told is new memory, its spare room too.
func TestG5NewMemory(t *testing.T) {
	p, q := busy(t, 20, 252), busy(t, 20, 252)
	told := p.Frame()
	was := slices.Clone(told)
	scratch(p.Frame())
	scratch(p.Frame())
	ticks(p, 2*aFrame)
	ticks(q, 2*aFrame)
	if !slices.Equal(told, was) || !same(p, q) {
		t.Error("G5: a frame that was told is not new memory")
	}
	p.Write(lcdc, 0)
	if !slices.Equal(told, was) {
		t.Error("G5: a frame that was told is cleared")
	}
}
