package board_test

import (
	"slices"
	"testing"

	"arcade/api"
	"arcade/board"
	"arcade/cpu"
	"arcade/ports"
	"arcade/ppu"
)

// TestB1New: a new processor, new ports, a new picture unit; all memory 0, no move; with a cartridge, and without one.
func TestB1New(t *testing.T) {
	bytes := rich(t)
	for _, b := range []*board.Board{built(t, nil), made(t, bytes)} {
		is(t, "B1: Regs", b.Regs(), cpu.New().Regs())
		is(t, "B1: Boundary", b.Boundary(), true)
		p, g := ports.New(), ppu.New()
		for addr := range 65536 {
			want := 0
			switch v, e := p.Read(addr); {
			case e == api.OK:
				want = v
			case addr == mover, addr >= 0xfea0 && addr < 0xff10, addr >= 0xff4c && addr < 0xff80:
				want = 255
			case isPicture(addr):
				want = g.Read(addr)
			case isCartridge(addr):
				continue
			}
			if v := b.Peek(addr); v != want {
				t.Fatalf("B1: Peek(%04x) = %d, want %d", addr, v, want)
			}
		}
		is(t, "B1: the mover", tail(b), [5]byte{255, 0, 0, 0, 0})
		is(t, "B1: bytes that were sent", len(b.Sent()), 0)
		if !slices.Equal(b.Frame(), make([]byte, 23040)) {
			t.Error("B1: Frame is not all 0")
		}
		run(t, b, 2)
		is(t, "B1: no byte is moved", tail(b), [5]byte{255, 0, 0, 0, 0})
	}
	b, none := made(t, bytes), built(t, nil)
	for addr := range 0x8000 {
		peeks(t, "B1: ROM", b, addr, int(bytes[addr]))
		peeks(t, "B1: no ROM", none, addr, 255)
	}
	for addr := ram; addr < work; addr++ {
		peeks(t, "B1: no RAM", none, addr, 255)
	}
}

// TestB1Cartridge: it is the board's as it was handed in: its registers and its RAM too.
func TestB1Cartridge(t *testing.T) {
	bytes := rich(t)
	c := cartridge(t, bytes)
	c.Write(0, 10)
	c.Write(0x2000, 3)
	c.Write(0xa005, 99)
	b := built(t, c)
	peeks(t, "B1", b, 0xa005, 99, 0x4321, int(bytes[3*0x4000+0x321]))
	is(t, "B1: Save", b.Save()[5], byte(99))
}

// TestB2Cycle: a board goes on one cycle at a time, as its processor says.
func TestB2Cycle(t *testing.T) {
	b := game(t, "org $150\nld a, 5\nld [$c001], a\nldh [$ff80], a\npush af\nloop: jr loop\n")
	r := b.Regs()
	r.SP = 0xd000
	set(t, b, r)
	for _, c := range []struct {
		pc             int
		boundary       bool
		work, high, at int
	}{
		{0x101, true, 0, 0, 0},                                                                            // nop
		{0x101, false, 0, 0, 0}, {0x101, false, 0, 0, 0}, {0x101, false, 0, 0, 0}, {0x150, true, 0, 0, 0}, // jp
		{0x150, false, 0, 0, 0}, {0x152, true, 0, 0, 0}, // ld
		{0x152, false, 0, 0, 0}, {0x152, false, 0, 0, 0}, {0x152, false, 0, 0, 0}, {0x155, true, 5, 0, 0}, // ld
		{0x155, false, 5, 0, 0}, {0x155, false, 5, 0, 0}, {0x157, true, 5, 5, 0}, // ldh
		{0x157, false, 5, 5, 0}, {0x157, false, 5, 5, 0}, {0x157, false, 5, 5, 5}, {0x158, true, 5, 5, 5}, // push
		{0x158, false, 5, 5, 5}, {0x158, false, 5, 5, 5}, {0x158, true, 5, 5, 5}, // jr
	} {
		b.Cycle()
		is(t, "B2: PC", b.Regs().PC, c.pc)
		is(t, "B2: Boundary", b.Boundary(), c.boundary)
		peeks(t, "B2", b, 0xc001, c.work, 0xe001, c.work, 0xff80, c.high, 0xcfff, c.at)
	}
}

// TestB2Run: so many cycles; ErrArg of more than may be, and of less than none.
func TestB2Run(t *testing.T) {
	source := "org $150\nld hl, $c000\nloop: inc [hl]\nld a, [hl+]\nldh [$ff46], a\njr loop\n"
	for _, n := range []int{0, 1, 2, 3, 17, 456, 5000} {
		a, b := game(t, source), game(t, source)
		run(t, a, n)
		for range n {
			b.Cycle()
		}
		same(t, "B2: Run and Cycles", a, b)
	}
	a, b := game(t, source), game(t, source)
	for _, n := range append(slices.Clone(far), 1000001, 2000000, 1<<32) {
		is(t, "B2: Run", a.Run(n), api.ErrArg)
	}
	same(t, "B2: Run that was refused", a, b)
	run(t, a, 1000000)
	run(t, b, 999999)
	is(t, "B2: 1000000 cycles are not 999999", slices.Equal(a.State(), b.State()), false)
	b.Cycle()
	same(t, "B2: Run(1000000)", a, b)
}

// TestB4Regs: they are the processor's, and are set at a boundary alone.
func TestB4Regs(t *testing.T) {
	b := game(t)
	p := cpu.New()
	some := api.Regs{A: 1, F: 0x50, B: 2, C: 3, D: 4, E: 5, H: 6, L: 7, SP: 0xd123, PC: 0x150, IME: true}
	bad := []api.Regs{{A: 256}, {A: -1}, {F: 1}, {F: 256}, {L: 256}, {SP: 65536}, {PC: -1}, {PC: 65536}, {State: 4}, {State: -1}}
	for _, r := range bad {
		is(t, "B4: SetRegs", b.SetRegs(r), api.ErrCpuRegs)
	}
	is(t, "B4: Regs", b.Regs(), p.Regs())
	is(t, "B4: SetRegs", b.SetRegs(some), api.OK)
	is(t, "B4: Regs", b.Regs(), some)
	put(t, b, "org $c000\ncall $c100\n")
	r := some
	r.PC, r.IME = 0xc000, false
	set(t, b, r)
	for in := range 5 {
		b.Cycle()
		was := b.State()
		is(t, "B4: Boundary", b.Boundary(), false)
		is(t, "B4: SetRegs", b.SetRegs(some), api.ErrCpuBusy)
		for _, bad := range bad {
			is(t, "B4: SetRegs of what may not be, in an instruction", b.SetRegs(bad), api.ErrCpuBusy)
		}
		is(t, "B4: Regs", b.Regs(), r)
		if !slices.Equal(b.State(), was) {
			t.Fatalf("B4: SetRegs in the cycle %d of an instruction has changed something", in)
		}
	}
	b.Cycle()
	is(t, "B4: Boundary", b.Boundary(), true)
	is(t, "B4: PC", b.Regs().PC, 0xc100)
	for _, state := range []int{api.Halted, api.Stopped, api.Locked} {
		set(t, b, api.Regs{State: state, PC: 0xc000})
		poke(t, b, let, 0)
		run(t, b, 7)
		is(t, "B4: Boundary of one that stands", b.Boundary(), true)
		is(t, "B4: Regs", b.Regs(), api.Regs{State: state, PC: 0xc000})
	}
}

// TestB4Dispatch: while an interrupt is being taken there is no boundary.
func TestB4Dispatch(t *testing.T) {
	b := bare(t)
	poke(t, b, let, 1, requests, 1)
	onHigh(t, b, api.Regs{SP: 0xd000, IME: true}, "nop")
	b.Cycle()
	for range 5 {
		is(t, "B4: Boundary", b.Boundary(), false)
		is(t, "B4: SetRegs", b.SetRegs(api.Regs{}), api.ErrCpuBusy)
		b.Cycle()
	}
	is(t, "B4: Boundary", b.Boundary(), true)
}

// TestB4Press: buttons are the ports'.
func TestB4Press(t *testing.T) {
	b, p := bare(t), ports.New()
	p.Write(requests, 0)
	for _, rows := range []int{0x00, 0x10, 0x20, 0x30} {
		poke(t, b, keys, rows)
		p.Write(keys, rows)
		for down := range 256 {
			is(t, "B4: Press", b.Press(down), api.OK)
			p.Press(down)
			want, _ := p.Read(keys)
			asked, _ := p.Read(requests)
			peeks(t, "B4", b, keys, want, requests, asked)
		}
	}
	is(t, "B4: Press", b.Press(api.Up), api.OK)
	was := b.State()
	for _, down := range append(slices.Clone(far), 256, 257) {
		is(t, "B4: Press", b.Press(down), api.ErrArg)
	}
	if !slices.Equal(b.State(), was) {
		t.Error("B4: Press that was refused has changed something")
	}
}

// TestB4Frame: a program's picture is told, once it is whole.
func TestB4Frame(t *testing.T) {
	b := game(t, "org $150\nxor a, a\nldh [$ff40], a\nld hl, $8000\nld b, 16\nfill: ld a, $ff\nld [hl+], a\ndec b\njr nz, fill\nld a, $e4\nldh [$ff47], a\nld a, $91\nldh [$ff40], a\nloop: jr loop\n")
	run(t, b, 1000)
	if !slices.Equal(b.Frame(), make([]byte, 23040)) {
		t.Error("B4: Frame ahead of the first whole one is not all 0")
	}
	run(t, b, aFrame)
	if !slices.Equal(b.Frame(), slices.Repeat([]byte{3}, 23040)) {
		t.Error("B4: Frame is not all 3")
	}
	poke(t, b, lcdc, 0)
	if !slices.Equal(b.Frame(), make([]byte, 23040)) {
		t.Error("B4: Frame of a picture that is off is not all 0")
	}
}

// TestB4Sent: a program's bytes go out one behind the other.
func TestB4Sent(t *testing.T) {
	b := game(t, "org $150\nld b, 0\nnext: ld a, b\nldh [$ff01], a\nld a, $81\nldh [$ff02], a\nwait: ldh a, [$ff02]\nbit 7, a\njr nz, wait\ninc b\njr next\n")
	run(t, b, 3*1080)
	if sent := b.Sent(); !slices.Equal(sent, []byte{0, 1, 2}) {
		t.Errorf("B4: Sent = %v, want 0 1 2", sent)
	}
}

// TestB4Save: what the battery keeps, of each kind; no bytes where there is none.
func TestB4Save(t *testing.T) {
	for _, c := range []struct {
		kind, code, ram byte
		size            int
	}{{0, 0, 0, 0}, {8, 0, 2, 0}, {9, 0, 2, 8192}, {2, 1, 3, 0}, {3, 1, 3, 32768}, {6, 0, 0, 512}, {0x13, 0, 2, 8192}, {0x1b, 0, 4, 131072}} {
		b := made(t, rom(t, c.kind, c.code, c.ram, "org $150\nld a, 10\nld [$0000], a\nld a, 7\nld [$a003], a\nloop: jr loop\n"))
		is(t, "B4: bytes of Save", len(b.Save()), c.size)
		run(t, b, 100)
		want := make([]byte, c.size)
		if c.size > 0 {
			want[3] = 7
		}
		if !slices.Equal(b.Save(), want) {
			t.Errorf("B4: Save of the kind %02x is not what was written", c.kind)
		}
	}
	is(t, "B4: bytes of Save without a cartridge", len(built(t, nil).Save()), 0)
}

// TestB4Lists: what comes out is new memory.
func TestB4Lists(t *testing.T) {
	b := game(t, "org $150\nld a, $81\nldh [$ff02], a\nloop: jr loop\n")
	c := made(t, rom(t, 9, 0, 2))
	poke(t, c, ram, 1)
	run(t, b, 3000)
	for _, list := range []func() []byte{b.Frame, b.Sent, b.State, c.Save, c.State} {
		was := slices.Clone(list())
		if len(was) == 0 {
			t.Error("B4: a list has nothing")
		}
		scratch(list())
		if !slices.Equal(list(), was) {
			t.Error("B4: a list that came out is not new memory")
		}
	}
}
