package board_test

import (
	"testing"

	"arcade/api"
	"arcade/board"
)

// wide is how many points a row of the picture has.
const wide = 160

// onHigh lays a program into HIGH, and a loop behind it, and lets the processor begin there.
func onHigh(t *testing.T, b *board.Board, r api.Regs, source string) {
	t.Helper()
	put(t, b, "org $ff90\n"+source+"\nloop: jr loop\n")
	r.PC = 0xff90
	set(t, b, r)
}

// Test73Divider: what the processor writes counts ahead of this cycle's clocks of the ports; what Poke writes, ahead of the next one's.
func Test73Divider(t *testing.T) {
	b := bare(t)
	onHigh(t, b, api.Regs{A: 1, SP: 0xd000}, "ldh [$ff04], a")
	run(t, b, 3)
	run(t, b, 62)
	peeks(t, "7.3: 252 clocks", b, divider, 0)
	run(t, b, 1)
	peeks(t, "7.3: 256 clocks", b, divider, 1)
	poke(t, b, divider, 0)
	run(t, b, 63)
	peeks(t, "7.3: 252 clocks", b, divider, 0)
	run(t, b, 1)
	peeks(t, "7.3: 256 clocks", b, divider, 1)
}

// Test73Reads: and what it reads is what stands there ahead of the clocks.
func Test73Reads(t *testing.T) {
	for ahead, want := range []int{0, 1} {
		b := bare(t)
		poke(t, b, divider, 0)
		run(t, b, 61+ahead)
		onHigh(t, b, api.Regs{A: 9, SP: 0xd000}, "ldh a, [$ff04]")
		run(t, b, 3)
		is(t, "7.3: the divider, as it is read", b.Regs().A, want)
		peeks(t, "7.3", b, divider, 1)
		b = bare(t)
		poke(t, b, lcdc, 0x80)
		run(t, b, 111+ahead)
		onHigh(t, b, api.Regs{A: 9, SP: 0xd000}, "ldh a, [$ff44]")
		run(t, b, 3)
		is(t, "7.3: the line, as it is read", b.Regs().A, want)
		peeks(t, "7.3", b, 0xff44, 1)
	}
}

// Test73Serial: a transfer that the processor begins has this cycle's clocks already.
func Test73Serial(t *testing.T) {
	b := bare(t)
	poke(t, b, shift, 77)
	onHigh(t, b, api.Regs{A: 129, SP: 0xd000}, "ldh [$ff02], a")
	run(t, b, 3+1022)
	is(t, "7.3: bytes that were sent", len(b.Sent()), 0)
	run(t, b, 1)
	is(t, "7.3: bytes that were sent", len(b.Sent()), 1)
	peeks(t, "7.3", b, shift, 255, requests, 0xe8)
}

// Test73Timer: a write to the timer in the cycle in which its alarm ends is ahead of that end; in the next one it is behind it.
func Test73Timer(t *testing.T) {
	for late, want := range []int{0xe0, 0xe4} {
		b := bare(t)
		poke(t, b, again, 7, divider, 0, timer, 255, control, 5)
		run(t, b, 2+late) // the timer runs over in the fourth cycle, and its alarm ends in the fifth
		onHigh(t, b, api.Regs{A: 50, SP: 0xd000}, "ldh [$ff05], a")
		run(t, b, 2)
		peeks(t, "7.3: ahead of the write", b, timer, 7*late, requests, want)
		b.Cycle()
		peeks(t, "7.3: behind the write", b, timer, 50, requests, want)
	}
}

// Test73Picture: what the processor writes to the picture unit counts ahead of this cycle's clocks of it.
func Test73Picture(t *testing.T) {
	b := bare(t)
	onHigh(t, b, api.Regs{A: 0x80, SP: 0xd000}, "ldh [$ff40], a")
	run(t, b, 3+18)
	peeks(t, "7.3: 76 clocks", b, stat, 0x86)
	run(t, b, 1)
	peeks(t, "7.3: 80 clocks", b, stat, 0x87)
	poke(t, b, lcdc, 0, lcdc, 0x80)
	run(t, b, 19)
	peeks(t, "7.3: 76 clocks", b, stat, 0x86)
	run(t, b, 1)
	peeks(t, "7.3: 80 clocks", b, stat, 0x87)
}

// Test73Drawn: a register that is written, and a byte that is moved, in the cycle in which a line is drawn, are seen in it; in the next one they are not.
func Test73Drawn(t *testing.T) {
	for late := range 2 {
		b := bare(t)
		poke(t, b, bgp, 0, lcdc, 0x81)
		run(t, b, 60+late)
		onHigh(t, b, api.Regs{A: 2, SP: 0xd000}, "ldh [$ff47], a")
		run(t, b, aFrame)
		frame := b.Frame()
		is(t, "7.3: the first row's colour", frame[0], byte(2-2*late))
		is(t, "7.3: the second row's colour", frame[wide], byte(2))

		b = bare(t)
		for i := range 16 {
			poke(t, b, vram+i, 255)
		}
		poke(t, b, work, 16, work+1, 8, oam+1, 8, bgp, 0, obp0, 0xe4, lcdc, 0x82)
		run(t, b, 60+late)
		poke(t, b, mover, 0xc0)
		run(t, b, aFrame)
		frame = b.Frame()
		is(t, "7.3: the sprite's first row", frame[0], byte(3-3*late))
		is(t, "7.3: the sprite's second row", frame[wide], byte(3))
	}
}

// Test73PictureAsks: what the picture unit asks for goes to the ports, and is among the lines in the same cycle.
func Test73PictureAsks(t *testing.T) {
	for _, c := range []struct {
		name                string
		lyc, stat, let      int
		cycles, asked, wait int
	}{
		{"line 144", 200, 0, 1, 144 * 114, 0xe1, 0},
		{"LYC", 5, 0x40, 2, 5 * 114, 0xe2, 0},
		{"mode 0", 200, 0x08, 2, 63, 0xe2, 0},
		{"line 144 and mode 1", 200, 0x10, 2, 144 * 114, 0xe3, 0},
		{"line 144 that is not let", 200, 0, 0x1e, 144 * 114, 0xe1, 1},
		{"LYC that is not let", 5, 0x40, 0xfd, 5 * 114, 0xe2, 1},
	} {
		b := bare(t)
		poke(t, b, lyc, c.lyc, stat, c.stat, let, c.let, lcdc, 0x80)
		run(t, b, c.cycles-1)
		peeks(t, "7.3: "+c.name, b, requests, 0xe0)
		is(t, "7.3: "+c.name+": State", b.Regs().State, api.Halted)
		run(t, b, 1)
		peeks(t, "7.3: "+c.name, b, requests, c.asked)
		is(t, "7.3: "+c.name+": State", b.Regs().State, []int{api.Running, api.Halted}[c.wait])
	}
}

// Test73Wakes: a request of the ports is among the lines in the cycle in which it is raised; one that Press raises, in the next one.
func Test73Wakes(t *testing.T) {
	b := bare(t)
	poke(t, b, let, 4, divider, 0, timer, 255, control, 5)
	run(t, b, 4)
	is(t, "7.3: State", b.Regs().State, api.Halted)
	run(t, b, 1)
	is(t, "7.3: State", b.Regs().State, api.Running)
	b = bare(t)
	poke(t, b, let, 8, line, 129)
	run(t, b, 1023)
	is(t, "7.3: State", b.Regs().State, api.Halted)
	run(t, b, 1)
	is(t, "7.3: State", b.Regs().State, api.Running)
	b = bare(t)
	poke(t, b, let, 16, keys, 0x20)
	is(t, "B4: Press", b.Press(api.Left), api.OK)
	peeks(t, "B4", b, keys, 0xed, requests, 0xf0)
	is(t, "7.3: State", b.Regs().State, api.Halted)
	run(t, b, 1)
	is(t, "7.3: State", b.Regs().State, api.Running)
}

// Test73Lines: each bit of LET with each of the requests: a processor that is halted goes on just where both have one of the five.
func Test73Lines(t *testing.T) {
	b := bare(t)
	start := b.State()
	for lets := range 256 {
		for i := range 9 {
			asked := []int{0, 1, 2, 4, 8, 16, 31, 21, 255}[i]
			load(t, b, start)
			poke(t, b, let, lets, requests, asked)
			b.Cycle()
			want := api.Halted
			if lets&asked&31 != 0 {
				want = api.Running
			}
			if b.Regs().State != want {
				t.Fatalf("7.3: LET %02x, requests %02x: the processor is %d, want %d", lets, asked, b.Regs().State, want)
			}
		}
	}
}

// Test73SameCycle: a write to LET or to the requests counts among the lines of its own cycle.
func Test73SameCycle(t *testing.T) {
	for _, c := range []struct {
		source         string
		let, asked, a  int
		ime            bool
		cycles, at, pc int
	}{
		{"ldh [$ffff], a", 0, 4, 4, true, 3, 5, 0x50},
		{"ldh [$ff0f], a", 4, 0, 4, true, 3, 5, 0x50},
		{"ldh [$ffff], a", 0, 4, 8, true, 3, 3, 0xff90 + 2},
		{"ei\nldh [$ffff], a", 4, 4, 0, false, 4, 3, 0xff90 + 3},
		{"ei\nldh [$ff0f], a", 4, 4, 0, false, 4, 3, 0xff90 + 3},
		{"ei\nldh [$ffff], a", 4, 4, 4, false, 4, 5, 0x50},
	} {
		b := bare(t)
		poke(t, b, let, c.let, requests, c.asked)
		onHigh(t, b, api.Regs{A: c.a, SP: 0xd000, IME: c.ime}, c.source)
		run(t, b, c.cycles)
		is(t, "7.3: Boundary behind "+c.source, b.Boundary(), c.at == 3)
		run(t, b, c.at)
		is(t, "7.3: PC behind "+c.source, b.Regs().PC, c.pc)
	}
}

// Test73Taken: the interrupt that is taken goes from the requests, in the last cycle of its dispatch; all others stay.
func Test73Taken(t *testing.T) {
	for lets := range 32 {
		for asked := range 32 {
			b := bare(t)
			poke(t, b, let, lets, requests, asked)
			onHigh(t, b, api.Regs{SP: 0xd000, IME: true}, "nop")
			run(t, b, 1)
			both := lets & asked
			if both == 0 {
				run(t, b, 5)
				peeks(t, "7.3", b, requests, 0xe0|asked)
				is(t, "7.3: SP", b.Regs().SP, 0xd000)
				continue
			}
			run(t, b, 4)
			peeks(t, "7.3: ahead of a dispatch's end", b, requests, 0xe0|asked)
			run(t, b, 1)
			least := both & -both
			number := map[int]int{1: 0, 2: 1, 4: 2, 8: 3, 16: 4}[least]
			peeks(t, "7.3: behind it", b, requests, 0xe0|asked&^least, 0xcfff, 0xff, 0xcffe, 0x91)
			is(t, "7.3: PC", b.Regs().PC, 64+8*number)
		}
	}
}

// Test73RaisedAndTaken: a request that is raised once more in the cycle in which it is taken goes with it; in the next one it stays.
func Test73RaisedAndTaken(t *testing.T) {
	for late, want := range []int{0xe0, 0xe4} {
		b := bare(t)
		poke(t, b, let, 4, requests, 4)
		onHigh(t, b, api.Regs{SP: 0xd000, IME: true}, "nop")
		run(t, b, 1+late)
		poke(t, b, divider, 0, timer, 255, control, 5)
		run(t, b, 5)
		is(t, "7.3: PC", b.Regs().PC, 0x50)
		peeks(t, "7.3", b, requests, want)
	}
}

// Test73Pushed: what a dispatch pushes to LET or to the requests counts in the cycle in which it is pushed.
func Test73Pushed(t *testing.T) {
	for _, c := range []struct {
		sp, pc, asked int
		then, rest    int
	}{
		{0x0000, 0x0200, 1, 0, 0xe1},      // LET is 2: none is left
		{0x0000, 0x0200, 3, 0x48, 0xe1},   // the next one
		{0x0001, 0x0204, 5, 0x50, 0xe1},   // LET is the lower byte, that of the dispatch's fourth cycle
		{0xff10, 0x0200, 1, 0x48, 0xe0},   // the requests are 2
		{0xff10, 0x0194, 2, 0x40, 0xe0},   // the requests are 1
		{0xff11, 0x0190, 1, 0x60, 0xe0},   // the requests are the lower byte
		{0xff11, 0x0200, 1, 0x0000, 0xe0}, // there are none any more
	} {
		b := still(t, game(t, "org $18f\nds 32\n", "org $1ff\nds 32\n"))
		poke(t, b, let, 0x1f, requests, c.asked)
		set(t, b, api.Regs{SP: c.sp, PC: c.pc - 1, IME: true})
		run(t, b, 6)
		is(t, "7.3: PC", b.Regs().PC, c.then)
		peeks(t, "7.3", b, requests, c.rest)
	}
}
