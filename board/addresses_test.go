package board_test

import (
	"math/rand"
	"slices"
	"testing"

	"arcade/api"
	"arcade/ports"
	"arcade/ppu"
)

// Test71Edges: the first and the last address of each row, of a board without a cartridge and of one with it, ahead of a write and behind it.
func Test71Edges(t *testing.T) {
	bytes := rom(t, 8, 0, 2)
	for _, c := range []struct {
		addr         int
		fresh, then  int // without a cartridge, behind a write of $5a
		cart, wrote  int // with one
		stays, again int // another address that is not, and one that is to be read the same
	}{
		{0x0000, 255, 255, int(pattern(0)), int(pattern(0)), 1, 0},
		{0x7fff, 255, 255, int(pattern(0x7fff)), int(pattern(0x7fff)), 0x7ffe, 0x7fff},
		{0x8000, 0, 0x5a, 0, 0x5a, 0x8001, 0x8000},
		{0x9fff, 0, 0x5a, 0, 0x5a, 0x9ffe, 0x9fff},
		{0xa000, 255, 255, 0, 0x5a, 0xa001, 0xa000},
		{0xbfff, 255, 255, 0, 0x5a, 0xbffe, 0xbfff},
		{0xc000, 0, 0x5a, 0, 0x5a, 0xdfff, 0xe000},
		{0xdfff, 0, 0x5a, 0, 0x5a, 0xc000, 0xdfff},
		{0xe000, 0, 0x5a, 0, 0x5a, 0xfdff, 0xc000},
		{0xfdff, 0, 0x5a, 0, 0x5a, 0xdfff, 0xddff},
		{0xfe00, 0, 0x5a, 0, 0x5a, 0xde00, 0xfe00},
		{0xfe9f, 0, 0x5a, 0, 0x5a, 0xfe9e, 0xfe9f},
		{0xfea0, 255, 255, 255, 255, 0xfe9f, 0xfea0},
		{0xfeff, 255, 255, 255, 255, 0xdeff, 0xfeff},
		{0xff00, 255, 0xdf, 255, 0xdf, 0xdf00, 0xff00},
		{0xff01, 0, 0x5a, 0, 0x5a, 0xff05, 0xff01},
		{0xff03, 255, 255, 255, 255, 0xff01, 0xff03},
		{0xff08, 255, 255, 255, 255, 0xff06, 0xff08},
		{0xff0e, 255, 255, 255, 255, 0xff0f, 0xff0e},
		{0xff0f, 0xe0, 0xfa, 0xe0, 0xfa, 0xffff, 0xff0f},
		{0xff10, 0, 0x5a, 0, 0x5a, 0xff11, 0xff10},
		{0xff3f, 0, 0x5a, 0, 0x5a, 0xff3e, 0xff3f},
		{0xff40, 0, 0x5a, 0, 0x5a, 0xff42, 0xff40},
		{0xff45, 0, 0x5a, 0, 0x5a, 0xff43, 0xff45},
		{0xff46, 255, 0x5a, 255, 0x5a, 0xff45, 0xff46},
		{0xff47, 252, 0x5a, 252, 0x5a, 0xff46, 0xff47},
		{0xff4b, 0, 0x5a, 0, 0x5a, 0xff4a, 0xff4b},
		{0xff4c, 255, 255, 255, 255, 0xff4b, 0xff4c},
		{0xff7f, 255, 255, 255, 255, 0xff80, 0xff7f},
		{0xff80, 0, 0x5a, 0, 0x5a, 0xff81, 0xff80},
		{0xfffe, 0, 0x5a, 0, 0x5a, 0xffff, 0xfffe},
		{0xffff, 0, 0x5a, 0, 0x5a, 0xfffe, 0xffff},
	} {
		for _, with := range []bool{false, true} {
			b := bare(t)
			fresh, then := c.fresh, c.then
			if with {
				b = still(t, made(t, bytes))
				fresh, then = c.cart, c.wrote
			}
			beside := b.Peek(c.stays)
			peeks(t, "7.1", b, c.addr, fresh)
			poke(t, b, c.addr, 0x5a)
			peeks(t, "7.1", b, c.addr, then, c.again, then, c.stays, beside)
		}
	}
}

// Test71Nothing: where there is nothing all that is read is $ff, and no write does anything.
func Test71Nothing(t *testing.T) {
	var none []int
	for addr := 0xfea0; addr < 0xff00; addr++ {
		none = append(none, addr)
	}
	for addr := 0xff4c; addr < 0xff80; addr++ {
		none = append(none, addr)
	}
	none = append(none, 0xff03, 0xff08, 0xff09, 0xff0a, 0xff0b, 0xff0c, 0xff0d, 0xff0e)
	b := still(t, made(t, rich(t)))
	was := b.State()
	for _, addr := range none {
		for v := range 256 {
			poke(t, b, addr, v)
			if x := b.Peek(addr); x != 255 {
				t.Fatalf("7.1: Peek(%04x) behind a write of %d = %d", addr, v, x)
			}
		}
		if !slices.Equal(b.State(), was) {
			t.Fatalf("7.1: writes to %04x have changed something", addr)
		}
	}
	empty := bare(t)
	was = empty.State()
	for addr := range 0xc000 {
		if addr < 0x8000 || addr >= 0xa000 {
			poke(t, empty, addr, addr%256)
			peeks(t, "B1", empty, addr, 255)
		}
	}
	if !slices.Equal(empty.State(), was) {
		t.Error("B1: writes to a cartridge that is not there have changed something")
	}
}

// Test71Kept: each byte of WORK, SOUND, HIGH and LET is 0 at the start, has a place of its own, and is read as it was written last.
func Test71Kept(t *testing.T) {
	b := bare(t)
	var own []int
	for addr := range 65536 {
		if isKept(addr) {
			own = append(own, addr)
		}
	}
	is(t, "7.1: bytes that are kept", len(own), 8192+48+127+1)
	for _, turn := range []int{0, 1, 201} {
		for _, addr := range own {
			if turn == 0 {
				peeks(t, "7.1", b, addr, 0)
				continue
			}
			poke(t, b, addr, int(pattern(addr+turn)))
		}
		for _, addr := range own {
			if turn > 0 {
				peeks(t, "7.1", b, addr, int(pattern(addr+turn)))
			}
		}
	}
	for v := range 256 {
		for _, addr := range []int{0xc123, 0xd321, 0xff23, 0xffa0, 0xffff} {
			poke(t, b, addr, v)
			peeks(t, "7.1", b, addr, v)
		}
	}
}

// Test71Again: what is written from $e000 to $fdff stands in WORK, but for its last 512 bytes.
func Test71Again(t *testing.T) {
	b := bare(t)
	for i := range 0x2000 {
		poke(t, b, work+i, int(pattern(i)))
	}
	for i := range 0x1e00 {
		peeks(t, "7.1", b, echo+i, int(pattern(i)))
		poke(t, b, echo+i, int(pattern(i))^0xff)
		peeks(t, "7.1", b, work+i, int(pattern(i))^0xff)
	}
	for i := 0x1e00; i < 0x2000; i++ {
		peeks(t, "7.1", b, work+i, int(pattern(i)))
	}
}

// Test71Cartridge: its addresses are read and written as the cartridge says, of each mapper.
func Test71Cartridge(t *testing.T) {
	r := rand.New(rand.NewSource(71))
	for _, kind := range [][3]byte{{0, 0, 0}, {9, 0, 2}, {3, 1, 3}, {6, 1, 0}, {0x13, 2, 3}, {0x1b, 2, 4}} {
		bytes := rom(t, kind[0], kind[1], kind[2])
		b, c := still(t, made(t, bytes)), cartridge(t, bytes)
		for range 300 {
			addr, v := r.Intn(0x8000), r.Intn(256)
			switch r.Intn(4) {
			case 0:
				addr = 0xa000 + r.Intn(0x2000)
			case 1:
				addr, v = []int{0, 0x1fff, 0x2000, 0x3fff, 0x4000, 0x5fff, 0x6000, 0x7fff, 0xa000, 0xbfff}[r.Intn(10)], 10
			}
			poke(t, b, addr, v)
			c.Write(addr, byte(v))
			peeks(t, "7.1", b, addr, int(c.Read(addr)))
			for _, at := range []int{0, 0x3fff, 0x4000, 0x7fff, 0xa000, 0xbfff, r.Intn(0x8000), 0xa000 + r.Intn(0x2000)} {
				peeks(t, "7.1", b, at, int(c.Read(at)))
			}
		}
		if !slices.Equal(b.Save(), c.Save()) {
			t.Errorf("7.1: a cartridge of the kind %02x on a board has not what was written", kind[0])
		}
	}
}

// Test71Picture: memory, table and registers are read and written as the picture unit says, in each of its modes; at $ff46 it has nothing.
func Test71Picture(t *testing.T) {
	r := rand.New(rand.NewSource(72))
	b, g := built(t, nil), ppu.New()
	set(t, b, api.Regs{State: api.Halted})
	for i := range 60000 {
		addr, v := 0xff40+r.Intn(12), r.Intn(256)
		switch r.Intn(3) {
		case 0:
			addr = vram + r.Intn(0x2000)
		case 1:
			addr = oam + r.Intn(160)
		}
		if addr == mover || addr == lcdc && i%1000 > 0 {
			continue
		}
		poke(t, b, addr, v)
		g.Write(addr, v)
		b.Cycle()
		g.Tick()
		for _, at := range []int{addr, vram + r.Intn(0x2000), oam + r.Intn(160), stat, 0xff44} {
			if x, want := b.Peek(at), g.Read(at); x != want {
				t.Fatalf("7.1: Peek(%04x) = %d, want %d", at, x, want)
			}
		}
	}
	if !slices.Equal(b.Frame(), g.Frame()) {
		t.Error("B4: Frame is not the picture unit's")
	}
}

// Test71Ports: they are read and written as the ports say, at any clocks.
func Test71Ports(t *testing.T) {
	r := rand.New(rand.NewSource(73))
	b, p := bare(t), ports.New()
	p.Write(requests, 0)
	for i := range 40000 {
		addr, v := 0xff00+r.Intn(16), r.Intn(256)
		if r.Intn([]int{4, 400}[i/20000]) == 0 { // seldom, so that a byte is sent, too
			poke(t, b, addr, v)
			p.Write(addr, v)
		}
		b.Cycle()
		p.Step(4)
		want, e := p.Read(addr)
		if e != api.OK {
			want = 255
		}
		if x := b.Peek(addr); x != want {
			t.Fatalf("7.1: Peek(%04x) = %d, want %d", addr, x, want)
		}
	}
	if len(p.Sent()) == 0 || !slices.Equal(b.Sent(), p.Sent()) {
		t.Errorf("B4: Sent = %v, want %v", b.Sent(), p.Sent())
	}
}

// Test71Reads: at each address the processor reads what Peek tells.
func Test71Reads(t *testing.T) {
	b := made(t, rich(t))
	put(t, b, "org $ff90\nld a, [hl]\n")
	poke(t, b, 0, 10)
	for addr := work; addr < echo; addr++ {
		poke(t, b, addr, int(pattern(addr)))
	}
	for addr := range 65536 {
		set(t, b, api.Regs{H: addr / 256, L: addr % 256, PC: 0xff90, SP: 0xd000})
		b.Cycle()
		want := b.Peek(addr)
		b.Cycle()
		if x := b.Regs().A; x != want {
			t.Fatalf("B3: at %04x the processor reads %d, and Peek tells %d", addr, x, want)
		}
	}
}

// Test71Writes: a write of the processor does what Poke does.
func Test71Writes(t *testing.T) {
	r := rand.New(rand.NewSource(74))
	bytes := rich(t)
	b, twin := made(t, bytes), made(t, bytes)
	put(t, b, "org $ff90\nld [hl], a\n")
	poke(t, b, 0, 10)
	start := b.State()
	list := slices.Clone(edges)
	for range 300 {
		list = append(list, r.Intn(65536), oam+r.Intn(0x200))
	}
	for _, addr := range list {
		if addr == 0xff90 { // where the program lies
			continue
		}
		v := r.Intn(256)
		load(t, b, start)
		set(t, b, api.Regs{A: v, H: addr / 256, L: addr % 256, PC: 0xff90, SP: 0xd000})
		b.Cycle()
		load(t, twin, b.State())
		b.Cycle()
		// The twin's processor writes the same in this cycle: only where the other one's does not, the two differ.
		poke(t, twin, addr, v)
		twin.Cycle()
		if !slices.Equal(b.State(), twin.State()) {
			t.Fatalf("B3: a write of %d to %04x does not what Poke does", v, addr)
		}
	}
}

// TestB3Bounds: addresses and bytes that are none are refused, or read as $ff, and nothing is changed.
func TestB3Bounds(t *testing.T) {
	b := made(t, rich(t))
	run(t, b, 1001)
	poke(t, b, 0, 10, ram, 7, mover, 0xc0)
	was := b.State()
	for _, addr := range append(slices.Clone(far), 65536, 65537, 0x1c000) {
		is(t, "B3: Peek", b.Peek(addr), 255)
		for _, v := range []int{0, 7, 255, -1, 256} {
			is(t, "B3: Poke", b.Poke(addr, v), api.ErrArg)
		}
	}
	for _, v := range append(slices.Clone(far), 256, 257, 511) {
		for _, addr := range edges {
			is(t, "B3: Poke", b.Poke(addr, v), api.ErrArg)
		}
	}
	if !slices.Equal(b.State(), was) {
		t.Error("B3: what was refused has changed something")
	}
	for _, addr := range []int{0xc000, 0xfdff} {
		for _, v := range []int{255, 0} {
			poke(t, b, addr, v)
			peeks(t, "B3", b, addr, v)
		}
	}
}

// TestB3Peek: to look changes nothing, at any address, in the midst of an instruction and of a move.
func TestB3Peek(t *testing.T) {
	source := "org $150\nld a, 5\nldh [$ff07], a\nld a, $81\nldh [$ff02], a\nloop: ld a, $c1\nldh [$ff46], a\ninc [hl]\njr loop\n"
	a, b := made(t, rich(t, source)), made(t, rich(t, source))
	for range 40 {
		run(t, a, 61)
		run(t, b, 61)
		was := b.State()
		first := seen(b)
		if !slices.Equal(first, seen(b)) || !slices.Equal(b.State(), was) {
			t.Fatal("B3: Peek has changed something")
		}
		for _, addr := range far {
			b.Peek(addr)
		}
	}
	same(t, "B3: looked at or not", a, b)
}

// TestB3Poke: no time goes by, of whatever part.
func TestB3Poke(t *testing.T) {
	b := built(t, nil)
	run(t, b, 1)
	onlyPokes := func() {
		for addr := work; addr < echo; addr++ {
			poke(t, b, addr, 1)
		}
	}
	regs, boundary := b.Regs(), b.Boundary()
	onlyPokes()
	is(t, "B3: Regs", b.Regs(), regs)
	is(t, "B3: Boundary", b.Boundary(), boundary)
	poke(t, b, divider, 0)
	run(t, b, 63)
	onlyPokes()
	peeks(t, "B3: 252 clocks", b, divider, 0)
	run(t, b, 1)
	peeks(t, "B3: 256 clocks", b, divider, 1)
	poke(t, b, lcdc, 0, lcdc, 0x80)
	run(t, b, 19)
	onlyPokes()
	peeks(t, "B3: the mode behind 76 clocks", b, stat, 0x86)
	run(t, b, 1)
	peeks(t, "B3: the mode behind 80 clocks", b, stat, 0x87)
}
