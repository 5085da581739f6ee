package console_test

import (
	"slices"
	"testing"

	"arcade/api"
	"arcade/cart"
	"arcade/console"
)

// TestN1Errors: the errors of the cartridge's New, as they are.
func TestN1Errors(t *testing.T) {
	changed := func(kind, code, ramCode byte, change func(b []byte)) []byte {
		bytes := rom(t, kind, code, ramCode)
		change(bytes)
		return bytes
	}
	nothing := func([]byte) {}
	typed := func(kind byte) []byte {
		bytes := rom(t, 0, 0, 0)
		bytes[0x147] = kind
		return sealed(bytes)
	}
	tooHigh := make([]byte, 512)
	tooHigh[511] = 16
	for i, x := range []struct {
		rom, save []byte
		want      api.Errno
	}{
		{nil, nil, api.ErrCartLength},
		{[]byte{}, make([]byte, 8192), api.ErrCartLength},
		{rom(t, 0, 0, 0)[:32767], nil, api.ErrCartLength},
		{make([]byte, 2097153), nil, api.ErrCartLength},
		{make([]byte, 32768), nil, api.ErrCartMark},
		{changed(0, 0, 0, func(b []byte) { b[0x133]++ }), nil, api.ErrCartMark},
		{changed(0, 0, 0, func(b []byte) { b[0x14d]-- }), nil, api.ErrCartSum},
		{changed(0, 0, 0, func(b []byte) { b[0x134]++ }), nil, api.ErrCartSum},
		{sealed(changed(0, 0, 0, func(b []byte) { b[0x143] = 0xc0 })), nil, api.ErrCartModel},
		{typed(4), nil, api.ErrCartType},
		{typed(255), nil, api.ErrCartType},
		{sealed(changed(0, 0, 0, func(b []byte) { b[0x148] = 1 })), nil, api.ErrCartRom},
		{changed(0, 1, 0, nothing), nil, api.ErrCartRom},
		{changed(0, 0, 2, nothing), nil, api.ErrCartRam},
		{changed(3, 0, 4, nothing), nil, api.ErrCartRam},
		{rom(t, 0, 0, 0), make([]byte, 1), api.ErrCartSave},
		{rom(t, 2, 0, 2), make([]byte, 8192), api.ErrCartSave},
		{rom(t, 3, 0, 2), make([]byte, 8191), api.ErrCartSave},
		{rom(t, 3, 0, 2), make([]byte, 8193), api.ErrCartSave},
		{rom(t, 6, 0, 0), make([]byte, 8192), api.ErrCartSave},
		{rom(t, 6, 0, 0), tooHigh, api.ErrCartSave},
	} {
		if c, e := console.New(x.rom, x.save); c != nil || e != x.want {
			t.Errorf("N1: line %d: New = %v, %d, want %d", i, c != nil, e, x.want)
		}
		if _, e := cart.New(x.rom, x.save); e != x.want {
			t.Errorf("N1: line %d: the cartridge's New = %d, want %d", i, e, x.want)
		}
	}
}

// TestN1Start: a new console is a new board with the cartridge, and has no carry.
func TestN1Start(t *testing.T) {
	save := make([]byte, 32768)
	for i := range save {
		save[i] = byte(i*7 + i>>8)
	}
	low := make([]byte, 512)
	for i := range low {
		low[i] = byte(i * 5 % 16)
	}
	for i, x := range []struct{ rom, save []byte }{
		{rom(t, 0, 0, 0), nil},
		{rom(t, 9, 0, 2), nil},
		{rom(t, 9, 0, 2), save[:8192]},
		{rom(t, 3, 2, 3), save},
		{rom(t, 6, 3, 0), low},
		{rom(t, 0x13, 0, 3), []byte{}},
		{rom(t, 0x1b, 6, 3), save},
	} {
		c, b := kept(t, x.rom, x.save), boardOf(t, x.rom, x.save)
		if !slices.Equal(c.State(), append([]byte{0}, b.State()...)) {
			t.Errorf("N1: line %d: a new console's State is not that of a new board, without a carry", i)
		}
		if !slices.Equal(c.Save(), b.Save()) || c.Regs() != b.Regs() {
			t.Errorf("N1: line %d: a new console is not as a new board", i)
		}
		is(t, "N1: Regs", c.Regs(), api.Regs{A: 1, F: 176, C: 19, E: 216, H: 1, L: 77, SP: 65534, PC: 256})
		if len(x.save) > 0 && !slices.Equal(c.Save(), x.save) {
			t.Errorf("N1: line %d: the cartridge's RAM is not the save", i)
		}
		for addr, v := range seen(t, c) {
			if int(v) != b.Peek(addr) {
				t.Fatalf("N1: line %d: Peek(%04x) = %d, want %d", i, addr, v, b.Peek(addr))
			}
		}
	}
}

// TestN1Lists: neither list is written into or kept.
func TestN1Lists(t *testing.T) {
	bytes := rom(t, 0x1b, 1, 3, keeping, back)
	save := make([]byte, 32768)
	save[0], save[32767] = 200, 201
	lent, lentSave := roomy(bytes), roomy(save)
	c := kept(t, lent, lentSave)
	other := kept(t, bytes, save)
	frames(t, c, 0, 1)
	frames(t, other, 0, 1)
	if !spared(lent, bytes) || !spared(lentSave, save) {
		t.Error("N1: a list that was handed in is written into")
	}
	scratch(lent)
	scratch(lentSave)
	same(t, "N1: behind New of lists that are others now", c, other)
	if f, g := frame(t, c, 2), frame(t, other, 2); !alike(f, g) {
		t.Error("N1: a frame hangs on a list that was handed in")
	}
	same(t, "N1: behind a frame", c, other)
}
