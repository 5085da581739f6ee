package console_test

import (
	"slices"
	"testing"

	"arcade/api"
)

// clocks holds the clocks and carries of frames against what they should be: a pair each.
func clocks(t *testing.T, which string, bytes []byte, locked bool, pairs ...[2]int) {
	t.Helper()
	c := made(t, bytes)
	for i, want := range pairs {
		f := frame(t, c, 0)
		if f.Clocks != want[0] || f.Carry != want[1] || f.Locked != locked {
			t.Errorf("%s: frame %d has %d clocks, carry %d, locked %v; want %d, %d, %v", which, i, f.Clocks, f.Carry, f.Locked, want[0], want[1], locked)
		}
	}
}

// Test81Examples: the chapter's examples, and loops of other lengths.
func Test81Examples(t *testing.T) {
	full := [2]int{70224, 0}
	clocks(t, "8.1: jr", first(t, 24, 254), false, full, full, full)
	clocks(t, "8.1: an opcode that is none", first(t, 211), true, full, full, full)
	clocks(t, "8.1: ld and jr", first(t, 62, 1, 24, 252), false, [2]int{70228, 4}, [2]int{70220, 0}, [2]int{70232, 8}, [2]int{70220, 4})
	clocks(t, "8.1: nop and jr", first(t, 0, 24, 253), false, full, full)
	clocks(t, "8.1: jp", first(t, 195, 0, 1), false, full, full)
	clocks(t, "8.1: halt", first(t, 118, 24, 254), false, full, full)
	clocks(t, "8.1: stop", first(t, 16, 0), false, full, full)
	// 12 and 16 clocks: 2508 times 28 are a frame
	clocks(t, "8.1: inc [hl] and jp", first(t, 52, 195, 0, 1), false, full, full)
	// 4 and 16 clocks: frames are full 4, 8, 12, 16, 20 clocks behind the beginning of a round; and in the first of these cases the nop is done just then
	clocks(t, "8.1: nop and jp", rom(t, 0, 0, 0, "org $100\nnop\njp $0100\n"), false, full, [2]int{70236, 12}, [2]int{70220, 8}, [2]int{70220, 4}, [2]int{70220, 0}, full)
}

// begun is how the programs begin that are timed: with a stack whose next bytes go to REQUESTS, and one interrupt let, or none.
func begun(let string) string {
	return "ld sp, $ff11\nld a, " + let + "\nldh [$ffff], a\nxor a, a\nldh [$ff0f], a\nei\n"
}

// sub is what is called: PC is $300, and goes on with idle instructions.
const sub = "org $300\nloop: jr loop\n"

// Test81Midst: the clocks are full in each cycle of an instruction: it is done, and then the frame is over.
func Test81Midst(t *testing.T) {
	for k := range 10 {
		bytes := timed(t, aFrame-k, begun("0"), "org $280\ncall $0300\n", sub)
		c := made(t, bytes)
		f := frame(t, c, 0)
		// six cycles of the call, then three of each jr
		carry := []int{0, 20, 16, 12, 8, 4, 0, 8, 4, 0}[k]
		pc := 0x300
		if k == 0 {
			pc = 0x280
		}
		if f.Clocks != 70224+carry || f.Carry != carry || c.Regs().PC != pc {
			t.Errorf("8.1: full behind %d cycles of a call: %d clocks, carry %d, PC %04x; want carry %d, PC %04x", k, f.Clocks, f.Carry, c.Regs().PC, carry, pc)
		}
		is(t, "8.1: the carry in the state", int(c.State()[0]), carry)
		next := frame(t, c, 0)
		if next.Clocks != 70224-carry+next.Carry || next.Carry > 8 {
			t.Errorf("8.1: behind a carry of %d a frame has %d clocks, carry %d", carry, next.Clocks, next.Carry)
		}
	}
}

// Test81Dispatch: the same, but the call's last write asks for an interrupt: what is dispatched belongs to the frame, and the greatest carry is 40.
func Test81Dispatch(t *testing.T) {
	for k := range 15 {
		// the call lies where the lower byte of what it pushes has the bit of the buttons
		c := made(t, timed(t, aFrame-k, begun("16"), "org $280\njp $028d\nds 10\ncall $0300\n", sub, "org $60\nloop: jr loop\n"))
		f := frame(t, c, 0)
		carry := []int{0, 12, 8, 4, 0, 40, 36, 32, 28, 24, 20, 16, 12, 8, 4}[k]
		pc := 0x60
		switch {
		case k == 0:
			pc = 0x280
		case k < 5:
			pc = 0x28d
		}
		if f.Clocks != 70224+carry || f.Carry != carry || c.Regs().PC != pc {
			t.Errorf("8.1: full behind %d cycles of a jump, a call and a dispatch: %d clocks, carry %d, PC %04x; want carry %d, PC %04x", k, f.Clocks, f.Carry, c.Regs().PC, carry, pc)
		}
		next := frame(t, c, 0)
		if next.Clocks != 70224-carry+next.Carry {
			t.Errorf("8.1: behind a carry of %d a frame has %d clocks, carry %d", carry, next.Clocks, next.Carry)
		}
	}
}

// Test81Halted: an interrupt ends a halt near the frame's end: its dispatch is done in the frame in which it begins.
func Test81Halted(t *testing.T) {
	// From the cycle behind the write that switches the picture on, line 144 begins in the cycle 16416.
	const untilAsked = 16416
	off := "ld sp, $fffe\nld a, 1\nldh [$ffff], a\nxor a, a\nldh [$ff40], a\nldh [$ff0f], a\nei\n"
	on := "org $280\nld a, $91\nldh [$ff40], a\nloop: halt\njr loop\n"
	for k := -2; k < 9; k++ {
		// the write is in the fifth cycle from $280 on; the picture has four clocks in that cycle already
		bytes := timed(t, aFrame-untilAsked-4-k, off, on, "org $40\nloop: jr loop\n")
		c := made(t, bytes)
		f := frame(t, c, 0)
		carry, state, pc := 0, api.Running, 0x40
		switch {
		case k < 0: // line 144 begins in the next frame
			state, pc = api.Halted, 0x285
		case k < 5:
			carry = 20 - 4*k
		default:
			carry = []int{0, 8, 4, 0}[k-5]
		}
		if f.Carry != carry || f.Clocks != 70224+carry || c.Regs().State != state || c.Regs().PC != pc {
			t.Errorf("8.1: asked %d cycles ahead of the end: %d clocks, carry %d, %+v; want carry %d, State %d, PC %04x", k, f.Clocks, f.Carry, c.Regs(), carry, state, pc)
		}
		frame(t, c, 0)
		is(t, "8.1: PC behind the next frame", c.Regs().PC, 0x40)
	}
}

// Test81Rests: a processor that is halted, stopped or locked is at a boundary in every cycle: what was carried is not carried on.
func Test81Rests(t *testing.T) {
	for _, x := range []struct {
		what   string
		code   string
		state  int
		locked bool
	}{
		{"halted", "halt", api.Halted, false},
		{"stopped", "stop", api.Stopped, false},
		{"locked", "db 211", api.Locked, true},
	} {
		bytes := timed(t, aFrame-1, begun("0"), "org $280\ncall $0300\n", "org $300\n"+x.code+"\n")
		c := made(t, bytes)
		f := frame(t, c, 0)
		is(t, "8.1: Carry of a call", f.Carry, 20)
		is(t, "8.1: Locked ahead of it", f.Locked, false)
		f = frame(t, c, 0)
		if f.Clocks != 70204 || f.Carry != 0 || f.Locked != x.locked || c.Regs().State != x.state {
			t.Errorf("8.1: %s: %d clocks, carry %d, locked %v", x.what, f.Clocks, f.Carry, f.Locked)
		}
		f = frame(t, c, 0)
		if f.Clocks != 70224 || f.Carry != 0 || f.Locked != x.locked || c.Regs().State != x.state {
			t.Errorf("8.1: %s: %d clocks, carry %d, locked %v in the next frame", x.what, f.Clocks, f.Carry, f.Locked)
		}
	}
}

// Test81Greatest: behind the greatest carry a frame has 40 clocks less.
func Test81Greatest(t *testing.T) {
	c := made(t, first(t, 118, 24, 254))
	state := c.State()
	state[0] = 40
	load(t, c, state)
	f := frame(t, c, 0)
	if f.Clocks != 70184 || f.Carry != 0 {
		t.Errorf("8.1: behind a carry of 40: %d clocks, carry %d", f.Clocks, f.Carry)
	}
	f = frame(t, c, 0)
	if f.Clocks != 70224 || f.Carry != 0 {
		t.Errorf("8.1: and then: %d clocks, carry %d", f.Clocks, f.Carry)
	}
}

// TestN2Painted: the picture is the board's, as it stands behind the frame.
func TestN2Painted(t *testing.T) {
	c := made(t, rom(t, 0, 0, 0, painting, asked, paints))
	for i, want := range []byte{0, 1, 2, 3, 0, 1} {
		f := frame(t, c, 0)
		if !slices.Equal(f.Pixels, slices.Repeat([]byte{want}, thePoints)) {
			t.Errorf("N2: frame %d is not all %d", i, want)
		}
		is(t, "N2: Locked", f.Locked, false)
	}
	all := made(t, rom(t, 0, 0, 0, "org $150\nxor a, a\nldh [$ff40], a\nld hl, $8000\nld b, 16\nnext: ld a, 255\nld [hl+], a\ndec b\njr nz, next\nld a, 228\nldh [$ff47], a\nld a, $91\nldh [$ff40], a\nloop: jr loop\n"))
	for range 3 {
		if f := frame(t, all, 0); !slices.Equal(f.Pixels, slices.Repeat([]byte{3}, thePoints)) {
			t.Error("N2: a frame is not all 3")
		}
	}
	black := made(t, first(t, 24, 254))
	if f := frame(t, black, 0); !slices.Equal(f.Pixels, make([]byte, thePoints)) {
		t.Error("N2: a frame of which nothing is painted is not all 0")
	}
}

// TestN2Rows: the points stand row by row.
func TestN2Rows(t *testing.T) {
	// The palette is changed when line 10 begins, and back by line 144.
	c := made(t, rom(t, 0, 0, 0, "org $150\nld b, 10\nld c, 3\ncall paint\nld b, 144\nld c, 1\ncall paint\njr @ - 14\npaint: ldh a, [$ff44]\ncp a, b\njr nz, paint\nld a, c\nldh [$ff47], a\nret\n"))
	frames(t, c, 0, 0)
	f := frame(t, c, 0)
	want := slices.Concat(slices.Repeat([]byte{1}, 10*160), slices.Repeat([]byte{3}, 134*160))
	if !slices.Equal(f.Pixels, want) {
		t.Errorf("N2: rows 9, 10, 143 begin with %d, %d, %d", f.Pixels[9*160], f.Pixels[10*160], f.Pixels[143*160])
	}
}

// TestN2Buttons: all buttons are seen, from the first one to the last one, and no others.
func TestN2Buttons(t *testing.T) {
	c := made(t, rom(t, 0, 0, 0, reading))
	for i := range 256 {
		buttons := i * 151 % 256
		frame(t, c, buttons)
		x, y := peek(t, c, 0xc000), peek(t, c, 0xc001)
		if x != 0xe0|^buttons&15 || y != 0xd0|^buttons>>4&15 {
			t.Fatalf("N2: buttons %d are read as %02x and %02x", buttons, x, y)
		}
	}
}

// TestN2Presses: a button goes down once, at the frame's beginning, and asks for an interrupt then.
func TestN2Presses(t *testing.T) {
	c := made(t, rom(t, 1, 1, 0, waiting, waited))
	count := 0
	for _, x := range []struct{ buttons, more int }{
		{0, 0}, {api.Right, 1}, {api.Right, 0}, {0, 0}, {api.Right, 1}, {api.Right | api.Left, 1}, {api.Left, 0},
		{api.Down, 1}, {api.Start, 0}, {api.KeyA | api.KeyB | api.Select | api.Start, 0}, {255, 1}, {255, 0}, {0, 0}, {15, 1},
	} {
		f := frame(t, c, x.buttons)
		count += x.more
		is(t, "N2: interrupts of buttons", peek(t, c, 0xc000), count)
		is(t, "N2: Clocks with a carry", f.Clocks, 70224+f.Carry)
	}
}

// TestN2First: the buttons are down ahead of the frame's first cycle: one that is halted goes on behind that cycle, nop by nop.
func TestN2First(t *testing.T) {
	c := made(t, rom(t, 0, 0, 0, "org $150\nld a, $20\nldh [$ff00], a\nld a, 16\nldh [$ffff], a\nxor a, a\nldh [$ff0f], a\nhalt\n"))
	frame(t, c, 0)
	halted := c.Regs()
	is(t, "N2: State", halted.State, api.Halted)
	frame(t, c, api.Start)
	is(t, "N2: Regs with a button of the other row", c.Regs(), halted)
	frame(t, c, api.Start|api.Right)
	is(t, "N2: State", c.Regs().State, api.Running)
	is(t, "N2: nops", c.Regs().PC-halted.PC, aFrame-1)
}

// TestN2Refused: buttons out of bounds are refused, and nothing is changed.
func TestN2Refused(t *testing.T) {
	c, other := made(t, rom(t, 0, 0, 0, reading)), made(t, rom(t, 0, 0, 0, reading))
	frames(t, c, 3)
	frames(t, other, 3)
	for _, buttons := range append([]int{-1, 256}, far...) {
		f, e := c.Frame(buttons)
		if e != api.ErrArg || len(f.Pixels) != 0 || f.Clocks != 0 || f.Carry != 0 || f.Locked {
			t.Errorf("N2: Frame(%d) = %d points, %d, %d, %v, %d", buttons, len(f.Pixels), f.Clocks, f.Carry, f.Locked, e)
		}
		same(t, "N2: behind buttons that are refused", c, other)
	}
	if !alike(frame(t, c, 255), frame(t, other, 255)) {
		t.Error("N2: a frame behind buttons that are refused is another one")
	}
	locked := made(t, first(t, 211))
	frame(t, locked, 0)
	if f, e := locked.Frame(256); e != api.ErrArg || f.Locked {
		t.Errorf("N2: Frame(256) of one that is locked: %v, %d", f.Locked, e)
	}
}

// TestN2Lists: each picture is new memory.
func TestN2Lists(t *testing.T) {
	c, other := made(t, rom(t, 0, 0, 0, painting, asked, paints)), made(t, rom(t, 0, 0, 0, painting, asked, paints))
	var told, copies [][]byte
	for i := range 5 {
		f, g := frame(t, c, i), frame(t, other, i)
		if !alike(f, g) {
			t.Fatalf("N2: frame %d hangs on a list that came out", i)
		}
		told, copies = append(told, g.Pixels), append(copies, slices.Clone(g.Pixels))
		scratch(f.Pixels)
	}
	for i := range told {
		if !slices.Equal(told[i], copies[i]) {
			t.Errorf("N2: the points of frame %d are others later", i)
		}
	}
	same(t, "N2: behind frames that were written over", c, other)
}
