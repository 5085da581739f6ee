package console_test

import (
	"math"
	"slices"
	"testing"

	"arcade/api"
	"arcade/asm"
	"arcade/board"
	"arcade/cart"
	"arcade/console"
)

// A frame: its cycles, and its points.
const (
	aFrame    = 17556
	thePoints = 23040
)

// far are numbers that are beyond all bounds.
var far = []int{math.MinInt, math.MinInt + 0xc000, math.MinInt32, -65536, -256, -255, -128, -1, 1<<16 + 1, 1 << 24, 1<<32 + 1, 1<<40 + 0x100, math.MaxInt32, math.MaxInt - 255, math.MaxInt}

// rom has a kind, a ROM's code and a RAM's code, and programs, each of which says by org where it lies; it begins at $150, behind five cycles. What they leave free is 0.
func rom(t *testing.T, kind, code, ramCode byte, sources ...string) []byte {
	t.Helper()
	bytes := make([]byte, 32768<<code)
	copy(bytes[0x100:], []byte{0, 0xc3, 0x50, 0x01})
	bytes[0x147], bytes[0x148], bytes[0x149] = kind, code, ramCode
	for _, source := range sources {
		image := assembled(t, source)
		copy(bytes[image.Org:], image.Code)
	}
	return sealed(bytes)
}

// sealed has the mark and the sum set right.
func sealed(bytes []byte) []byte {
	for i := range 48 {
		bytes[0x104+i] = byte(7*i*i + 13*i + 206)
	}
	sum := byte(231)
	for _, b := range bytes[0x134:0x14d] {
		sum -= b
	}
	bytes[0x14d] = sum
	return bytes
}

// first is a cartridge that has these bytes, at most four, at $100.
func first(t *testing.T, code ...byte) []byte {
	t.Helper()
	bytes := rom(t, 0, 0, 0)
	clear(bytes[0x100:0x104])
	copy(bytes[0x100:0x104], code)
	return bytes
}

func assembled(t *testing.T, source string) api.Image {
	t.Helper()
	image, at, e := asm.Assemble(source)
	if e != api.OK {
		t.Fatalf("Assemble: %d in line %d of\n%s", e, at, source)
	}
	return image
}

// made is a console of a ROM, kept is one of a ROM and a save.
func made(t *testing.T, rom []byte) *console.Console {
	t.Helper()
	return kept(t, rom, nil)
}

func kept(t *testing.T, rom, save []byte) *console.Console {
	t.Helper()
	c, e := console.New(rom, save)
	if c == nil || e != api.OK {
		t.Fatalf("N1: New of %d bytes, and of a save of %d: %d", len(rom), len(save), e)
	}
	return c
}

// boardOf is a board with a cartridge of a ROM and a save, that no console has to do with.
func boardOf(t *testing.T, rom, save []byte) *board.Board {
	t.Helper()
	c, e := cart.New(rom, save)
	if e != api.OK {
		t.Fatalf("cart.New = %d", e)
	}
	return board.New(c)
}

// frame is one that is not refused.
func frame(t *testing.T, c *console.Console, buttons int) api.Frame {
	t.Helper()
	f, e := c.Frame(buttons)
	if e != api.OK || len(f.Pixels) != thePoints {
		t.Fatalf("N2: Frame(%d) = %d, with %d points", buttons, e, len(f.Pixels))
	}
	return f
}

func frames(t *testing.T, c *console.Console, buttons ...int) {
	t.Helper()
	for _, b := range buttons {
		frame(t, c, b)
	}
}

func load(t *testing.T, c *console.Console, state []byte) *console.Console {
	t.Helper()
	if e := c.Load(state); e != api.OK {
		t.Fatalf("N4: Load of %d bytes = %d", len(state), e)
	}
	return c
}

func peek(t *testing.T, c *console.Console, addr int) int {
	t.Helper()
	v, e := c.Peek(addr)
	if e != api.OK {
		t.Fatalf("N3: Peek(%04x) = %d", addr, e)
	}
	return v
}

func is(t *testing.T, what string, got, want any) {
	t.Helper()
	if got != want {
		t.Errorf("%s = %v, want %v", what, got, want)
	}
}

// alike tells whether two frames are.
func alike(f, g api.Frame) bool {
	return slices.Equal(f.Pixels, g.Pixels) && f.Clocks == g.Clocks && f.Carry == g.Carry && f.Locked == g.Locked
}

// seen is what can be seen at all addresses.
func seen(t *testing.T, c *console.Console) []byte {
	t.Helper()
	told := make([]byte, 65536)
	for addr := range told {
		told[addr] = byte(peek(t, c, addr))
	}
	return told
}

// same holds against each other what two consoles tell by all calls that change nothing.
func same(t *testing.T, which string, a, b *console.Console) {
	t.Helper()
	if !slices.Equal(a.State(), b.State()) || !slices.Equal(seen(t, a), seen(t, b)) || !slices.Equal(a.Save(), b.Save()) || a.Regs() != b.Regs() {
		t.Errorf("%s: two consoles are not alike: %+v, carry %d, and %+v, carry %d", which, a.Regs(), a.State()[0], b.Regs(), b.State()[0])
	}
}

// roomy is a list with spare room, all of it filled.
func roomy(list []byte) []byte {
	long := append(slices.Clone(list), slices.Repeat([]byte{0xa5}, 40)...)
	return long[:len(list)]
}

// spared tells whether a roomy list is as it was, its room too.
func spared(list, was []byte) bool {
	return slices.Equal(list, was) && slices.Equal(list[len(list):len(list)+40], slices.Repeat([]byte{0xa5}, 40))
}

// scratch writes over a list and its spare room.
func scratch(list []byte) {
	whole := list[:cap(list)]
	for i := range whole {
		whole[i] ^= 0xff
	}
}
