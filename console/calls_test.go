package console_test

import (
	"slices"
	"testing"

	"arcade/api"
	"arcade/console"
)

// TestN3Regs: the registers are the board's, and behind a frame they are between two instructions.
func TestN3Regs(t *testing.T) {
	c := made(t, rom(t, 0, 0, 0, "org $150\nld sp, $cff0\nld a, $12\nscf\nld bc, $3456\nld de, $789a\nld hl, $bcde\nei\nnop\nhalt\n"))
	frame(t, c, 0)
	is(t, "N3: Regs", c.Regs(), api.Regs{A: 0x12, F: 0x90, B: 0x34, C: 0x56, D: 0x78, E: 0x9a, H: 0xbc, L: 0xde, SP: 0xcff0, PC: 0x162, IME: true, State: api.Halted})
}

// TestN3Peek: what stands at an address is the board's; others are refused.
func TestN3Peek(t *testing.T) {
	bytes := rom(t, 0x1b, 1, 3, keeping, back)
	c := made(t, bytes)
	frames(t, c, 0, 9)
	b := boardOf(t, bytes, nil)
	if e := b.Load(c.State()[1:]); e != api.OK {
		t.Fatalf("B5: Load = %d", e)
	}
	for addr := range 65536 {
		if v, e := c.Peek(addr); v != b.Peek(addr) || e != api.OK {
			t.Fatalf("N3: Peek(%04x) = %d, %d, want %d", addr, v, e, b.Peek(addr))
		}
	}
	is(t, "N3: Peek($0000)", peek(t, c, 0), int(bytes[0]))
	is(t, "N3: Peek($0150)", peek(t, c, 0x150), int(bytes[0x150]))
	is(t, "N3: Peek($a003)", peek(t, c, 0xa003), 2)
	is(t, "N3: Peek($fea0)", peek(t, c, 0xfea0), 255)
	is(t, "N3: Peek($ffff)", peek(t, c, 65535), 1)
	for _, addr := range append([]int{-1, 65536}, far...) {
		if v, e := c.Peek(addr); v != 0 || e != api.ErrArg {
			t.Errorf("N3: Peek(%d) = %d, %d", addr, v, e)
		}
	}
}

// TestN3Save: what the battery keeps is the cartridge's RAM; without one nothing is kept.
func TestN3Save(t *testing.T) {
	c := made(t, rom(t, 0x1b, 1, 3, keeping, back))
	is(t, "N3: bytes of Save", len(c.Save()), 32768)
	frames(t, c, 0, 0, 0)
	save := c.Save()
	want := make([]byte, 32768)
	for bank := range 4 {
		want[bank*8192+3-bank] = 3
	}
	if !slices.Equal(save, want) {
		t.Error("N3: Save is not what the program has written")
	}
	scratch(save)
	if !slices.Equal(c.Save(), want) {
		t.Error("N3: Save hangs on a list that came out")
	}
	for _, x := range []struct {
		kind, ramCode byte
		want          int
	}{{0, 0, 0}, {8, 2, 0}, {9, 2, 8192}, {1, 0, 0}, {2, 3, 0}, {3, 2, 8192}, {5, 0, 0}, {6, 0, 512}, {0x12, 3, 0}, {0x13, 3, 32768}, {0x1a, 4, 0}, {0x1b, 4, 131072}, {0x1b, 5, 65536}} {
		c := made(t, rom(t, x.kind, 0, x.ramCode, keeping, back))
		frame(t, c, 0)
		is(t, "N3: bytes of Save", len(c.Save()), x.want)
	}
}

// TestN3Changes: calls that tell something change nothing.
func TestN3Changes(t *testing.T) {
	for _, bytes := range programs(t) {
		c, other := made(t, bytes), made(t, bytes)
		for i := range 4 {
			f, g := frame(t, c, i*40), frame(t, other, i*40)
			if !alike(f, g) {
				t.Fatal("N3: a console that is looked at has other frames")
			}
			look(c)
		}
		same(t, "N3: one that was looked at", c, other)
	}
}

func look(c *console.Console) {
	c.Regs()
	c.Save()
	c.State()
	for addr := -3; addr < 65540; addr++ {
		c.Peek(addr)
	}
}
