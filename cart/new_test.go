package cart_test

import (
	"slices"
	"testing"

	"arcade/api"
	"arcade/cart"
)

// TestD2Start: each type, with and without a save: its header, its registers, its RAM.
func TestD2Start(t *testing.T) {
	each([]byte{0, 1, 3}, func(s sort, code, ram byte) {
		rom := numbered(s.kind, code, ram)
		want, _ := header(s.kind, code, ram, len(rom))
		start := []byte{0, 1, 0, 0, 0}
		if s.mapper == 0 {
			start[1] = 0
		}
		for _, none := range [][]byte{nil, {}} {
			c := made(t, rom, none)
			if h := c.Header(); h != want {
				t.Errorf("D2: type %02x: Header = %+v, want %+v", s.kind, h, want)
			}
			if state := c.State(); !slices.Equal(state, slices.Concat(start, make([]byte, s.ramSize(ram)))) {
				t.Errorf("D2: type %02x: a new one has %d bytes, registers %v", s.kind, len(state), registers(c))
			}
		}
		if !s.battery {
			return
		}
		save := fill(s.mapper, s.ramSize(ram), 3)
		c := made(t, rom, save)
		if state := c.State(); !slices.Equal(state, slices.Concat(start, save)) || c.Header() != want {
			t.Errorf("D2: type %02x: with a save it has %d bytes, registers %v, %+v", s.kind, len(state), registers(c), c.Header())
		}
	})
}

// TestD2Saves: saves of all lengths that may be mistaken for the right one.
func TestD2Saves(t *testing.T) {
	lengths := []int{1, 2, 5, 511, 512, 513, 517, 8191, 8192, 8193, 8197, 32767, 32768, 32769, 65535, 65536, 65537, 131071, 131072, 131073, 262144}
	each([]byte{0}, func(s sort, code, ram byte) {
		rom := numbered(s.kind, code, ram)
		for _, n := range lengths {
			want := api.ErrCartSave
			if s.battery && n == s.ramSize(ram) {
				want = api.OK
			}
			if c, e := cart.New(rom, make([]byte, n)); e != want || (c == nil) != (e != api.OK) {
				t.Errorf("D2: New of type %02x, RAM's code %d, with %d bytes: %v, %d, want %d", s.kind, ram, n, c != nil, e, want)
			}
		}
	})
}

// TestD2Halves: a save of mapper 2 has half bytes; those of others may have all.
func TestD2Halves(t *testing.T) {
	rom := numbered(6, 0, 0)
	save := make([]byte, 512)
	for at := range save {
		for _, v := range []byte{1, 15, 16, 17, 31, 128, 240, 255} {
			save[at] = v
			want := api.OK
			if v > 15 {
				want = api.ErrCartSave
			}
			if c, e := cart.New(rom, save); e != want || (c == nil) != (e != api.OK) {
				t.Fatalf("D2: New with %d at %d of the save: %v, %d, want %d", v, at, c != nil, e, want)
			}
		}
		save[at] = byte(at % 16)
	}
	c := made(t, rom, save)
	c.Write(0, 10)
	for at := range save {
		if v := c.Read(0xa000 + at); v != 240+byte(at%16) {
			t.Fatalf("D2: the save's byte %d is read as %d", at, v)
		}
	}
	for _, kind := range []byte{3, 9, 0x13, 0x1b} {
		made(t, numbered(kind, 0, 2), slices.Repeat([]byte{255}, 8192))
	}
}

// TestD2Apart: the lists that New was given belong to the caller, and two cartridges have nothing to do with one another.
func TestD2Apart(t *testing.T) {
	for _, kind := range []byte{3, 6, 9, 0x13, 0x1b} {
		ram := byte(2)
		mapper := 1
		if kind == 6 {
			ram, mapper = 0, 2
		}
		rom := roomy(mixed(kind, 0, ram))
		size := 8192
		if mapper == 2 {
			size = 512
		}
		save := roomy(fill(mapper, size, 4))
		wasRom, wasSave := slices.Clone(rom), slices.Clone(save)
		c, d := made(t, rom, save), made(t, rom, save)
		c.Write(0, 10)
		d.Write(0, 10)
		all := whole(c)
		for addr := range 65536 {
			if addr >= 0x8000 {
				d.Write(addr, 9)
			}
		}
		if !spared(rom, wasRom) || !spared(save, wasSave) {
			t.Fatalf("D2: type %02x: a list that was given is changed", kind)
		}
		for i := range rom {
			rom[i]++
		}
		clear(save)
		if !slices.Equal(whole(c), all) {
			t.Errorf("D2: type %02x: the caller's lists, or another cartridge, change what is read", kind)
		}
	}
}

// TestD2Header: nothing that is written changes it.
func TestD2Header(t *testing.T) {
	c := made(t, numbered(0x1b, 1, 3), nil)
	want := api.Header{Title: "GAME", Type: 0x1b, Mapper: 5, Banks: 4, Ram: 32768, Battery: true}
	for addr := 0; addr < 65536; addr += 255 {
		c.Write(addr, 10)
		if h := c.Header(); h != want {
			t.Fatalf("D2: Header = %+v, want %+v", h, want)
		}
	}
}
