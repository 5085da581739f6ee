package cart_test

import (
	"math"
	"slices"
	"testing"

	"arcade/api"
	"arcade/cart"
)

// sort is a row of the chapter's table, with one type.
type sort struct {
	kind    byte
	mapper  int
	banks   int
	codes   []byte
	battery bool
}

var sorts = []sort{
	{0x00, 0, 2, []byte{0}, false},
	{0x01, 1, 128, []byte{0}, false},
	{0x02, 1, 128, []byte{2, 3}, false},
	{0x03, 1, 128, []byte{2, 3}, true},
	{0x05, 2, 16, []byte{0}, false},
	{0x06, 2, 16, []byte{0}, true},
	{0x08, 0, 2, []byte{2}, false},
	{0x09, 0, 2, []byte{2}, true},
	{0x11, 3, 128, []byte{0}, false},
	{0x12, 3, 128, []byte{2, 3}, false},
	{0x13, 3, 128, []byte{2, 3}, true},
	{0x19, 5, 128, []byte{0}, false},
	{0x1a, 5, 128, []byte{2, 3, 4, 5}, false},
	{0x1b, 5, 128, []byte{2, 3, 4, 5}, true},
}

// sizes are the bytes of RAM by their codes.
var sizes = map[byte]int{0: 0, 2: 8192, 3: 32768, 4: 131072, 5: 65536}

// outside are addresses that are none.
var outside = []int{-1, -24576, -0x6000, 0xa000 - 65536, math.MinInt, math.MinInt + 0xa000, 65536, 65536 + 0x2000, 65536 + 0xa000, 1<<32 + 0x2100, 1<<32 + 0xa000, math.MaxInt}

// unused are addresses at which there is none of a cartridge.
var unused = []int{0x8000, 0x8100, 0x9fff, 0xc000, 0xe000, 0xffff}

// seal makes the sum right.
func seal(rom []byte) []byte {
	total := 0
	for at := 0x134; at <= 0x14c; at++ {
		total += int(rom[at])
	}
	rom[0x14d] = byte(231 - total)
	return rom
}

// label writes a header over what is there.
func label(rom []byte, kind, code, ram byte) []byte {
	for i := range 48 {
		rom[0x104+i] = byte((7*i*i + 13*i + 206) % 256)
	}
	clear(rom[0x134:0x150])
	copy(rom[0x134:], "GAME")
	rom[0x147], rom[0x148], rom[0x149] = kind, code, ram
	return seal(rom)
}

// numbered is a ROM each bank of which has its number in all its bytes, but for the header.
func numbered(kind, code, ram byte) []byte {
	rom := make([]byte, 32768<<code)
	for i := range rom {
		rom[i] = byte(i / 16384)
	}
	return label(rom, kind, code, ram)
}

// mixed is a ROM of which no two pieces are alike.
func mixed(kind, code, ram byte) []byte {
	rom := make([]byte, 32768<<code)
	x := uint32(kind)<<16 + uint32(code)<<8 + uint32(ram) + 1
	for i := range rom {
		x = x*1664525 + 1013904223
		rom[i] = byte(x >> 24)
	}
	return label(rom, kind, code, ram)
}

// made is a cartridge.
func made(t *testing.T, rom, save []byte) *cart.Cart {
	t.Helper()
	c, e := cart.New(rom, save)
	if c == nil || e != api.OK {
		t.Fatalf("D2: New of type %02x with %d bytes: %v, %d", rom[0x147], len(save), c != nil, e)
	}
	return c
}

// write is one.
type write struct {
	addr int
	v    byte
}

func writes(c *cart.Cart, all ...write) {
	for _, w := range all {
		c.Write(w.addr, w.v)
	}
}

// read is what Read should tell.
type read struct {
	addr int
	want byte
}

func reads(t *testing.T, which string, c *cart.Cart, all ...read) {
	t.Helper()
	for _, r := range all {
		if v := c.Read(r.addr); v != r.want {
			t.Errorf("%s: Read(%04x) = %02x, want %02x", which, r.addr, v, r.want)
		}
	}
}

// load makes a cartridge have these registers, its RAM as it was.
func load(t *testing.T, c *cart.Cart, on, low, high, pick, mode byte) {
	t.Helper()
	state := c.State()
	copy(state, []byte{on, low, high, pick, mode})
	if e := c.Load(state); e != api.OK {
		t.Fatalf("D6: Load with the registers %v = %d", state[:5], e)
	}
}

// registers are what State tells of them.
func registers(c *cart.Cart) []byte {
	state := c.State()
	return state[:min(5, len(state))]
}

// whole is all that can be read.
func whole(c *cart.Cart) []byte {
	all := make([]byte, 65536)
	for addr := range all {
		all[addr] = c.Read(addr)
	}
	return all
}

// fill makes bytes that a RAM of that mapper may have.
func fill(mapper, size, seed int) []byte {
	ram := make([]byte, size)
	x := uint32(seed)*77777 + 5
	for i := range ram {
		x = x*1664525 + 1013904223
		ram[i] = byte(x >> 24)
		if mapper == 2 {
			ram[i] &= 15
		}
	}
	return ram
}

// ramSize is how many bytes of RAM cartridges have.
func (s sort) ramSize(code byte) int {
	if s.mapper == 2 {
		return 512
	}
	return sizes[code]
}

// each calls f with each type, each of its RAM's codes, and the ROM's codes that are asked for, as far as the type may have them.
func each(codes []byte, f func(s sort, code, ram byte)) {
	for _, s := range sorts {
		for _, code := range codes {
			if 2<<code > s.banks {
				continue
			}
			for _, ram := range s.codes {
				f(s, code, ram)
			}
		}
	}
}

// roomy is a list with spare room, all of it filled.
func roomy(list []byte) []byte {
	long := append(slices.Clone(list), make([]byte, 40)...)
	for i := len(list); i < len(long); i++ {
		long[i] = 0xa5
	}
	return long[:len(list)]
}

// spared tells whether a roomy list is as it was, its room too.
func spared(list, was []byte) bool {
	return slices.Equal(list, was) && slices.Equal(list[len(list):len(list)+40], slices.Repeat([]byte{0xa5}, 40))
}
