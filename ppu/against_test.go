package ppu_test

import (
	"math/rand"
	"testing"
)

// control is an LCDC that is on, nearly always.
func control(r *rand.Rand) int {
	if r.Intn(60) == 0 {
		return r.Intn(128)
	}
	return 128 + r.Intn(128)
}

// near is a number, often small or close to the ends of what counts.
func near(r *rand.Rand) int {
	if r.Intn(3) == 0 {
		return r.Intn(256)
	}
	return []int{0, 1, 6, 7, 8, 15, 16, 17, 80, 143, 144, 153, 154, 159, 160, 165, 166, 167, 168, 255}[r.Intn(20)]
}

// change writes something, with a hand that likes what is seen.
func (b both) change(r *rand.Rand) {
	switch r.Intn(12) {
	case 0:
		b.write(lcdc, control(r))
	case 1:
		b.write(stat, r.Intn(256))
	case 2:
		b.write(lyc, []int{near(r), b.m.line, b.m.line + 1}[r.Intn(3)])
	case 3:
		b.write(wy, []int{near(r), b.m.line, b.m.line + 1}[r.Intn(3)])
	case 4:
		b.write(wx, near(r))
	case 5:
		b.write([]int{scy, scx, bgp, obp0, obp1}[r.Intn(5)], r.Intn(256))
	case 6:
		b.write(vram+r.Intn(0x2000), r.Intn(256))
	case 7:
		b.write(oam+r.Intn(160), near(r))
	case 8:
		i, v := r.Intn(170)-5, r.Intn(512)
		b.p.Dma(i, v)
		if i >= 0 && i < 160 {
			b.m.bytes[oam+i] = v % 256
		}
	case 9:
		b.write([]int{ly, dma, 0xff4c, oamEnd, vramEnd, vram - 1, -1}[r.Intn(7)], r.Intn(256))
	case 10:
		b.write(lcdc, b.m.bytes[lcdc]^0x20)
	case 11:
		b.write(lcdc, b.m.bytes[lcdc]^1<<r.Intn(7))
	}
}

// furnish fills memory: tiles, maps, and sprites that crowd some lines.
func (b both) furnish(r *rand.Rand) {
	b.write(lcdc, 0)
	for address := vram; address < vramEnd; address++ {
		b.write(address, r.Intn(256)&r.Intn(256))
	}
	row := r.Intn(170)
	for i := range 40 {
		if r.Intn(3) == 0 {
			row = r.Intn(170)
		}
		s := oam + 4*i
		b.write(s, row+r.Intn(6), s+1, []int{r.Intn(256), 80 + r.Intn(12), near(r)}[r.Intn(3)], s+2, r.Intn(256), s+3, r.Intn(256))
	}
	b.write(scy, r.Intn(256), scx, r.Intn(256), bgp, r.Intn(256), obp0, r.Intn(256), obp1, r.Intn(256), wy, r.Intn(150), wx, r.Intn(170), lyc, r.Intn(154), stat, r.Intn(256))
	b.write(lcdc, 128+r.Intn(128))
}

// TestG4Scenes: frames of random memory and registers, held against the model.
func TestG4Scenes(t *testing.T) {
	r := rand.New(rand.NewSource(64))
	b := newBoth()
	for range 150 {
		b.furnish(r)
		b.frame(t)
	}
}

// TestG4Runs: runs with changes in the midst of frames, few or many, held against the model.
func TestG4Runs(t *testing.T) {
	r := rand.New(rand.NewSource(65))
	for n := range 40 {
		b := newBoth()
		b.furnish(r)
		often := []int{3, 30, 300, 3000}[n%4]
		for i := range 2 * aFrame {
			if r.Intn(often) == 0 {
				b.change(r)
			}
			b.tick(t)
			if b.m.line == 144 && b.m.clock == 0 {
				b.framed(t, "G4")
			}
			if i%5003 == 0 {
				b.alike(t)
			}
		}
		b.alike(t)
	}
}

// TestG6Runs: runs that are cut by State and Load into another picture, held against the model, which goes on.
func TestG6Runs(t *testing.T) {
	r := rand.New(rand.NewSource(66))
	for range 12 {
		b := newBoth()
		b.furnish(r)
		for range 2 * aFrame {
			if r.Intn(100) == 0 {
				b.change(r)
			}
			if r.Intn(400) == 0 {
				b.p = loaded(t, b.p.State())
			}
			b.tick(t)
			if b.m.line == 144 && b.m.clock == 0 {
				b.framed(t, "G6")
			}
		}
		b.alike(t)
	}
}
