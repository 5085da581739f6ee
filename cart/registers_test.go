package cart_test

import (
	"math/rand"
	"slices"
	"testing"

	"arcade/api"
	"arcade/cart"
)

// plain is a type of each mapper, with as little RAM as there may be.
var plain = []struct {
	mapper int
	kind   byte
}{{0, 0}, {1, 1}, {2, 5}, {3, 0x11}, {5, 0x19}}

// between are registers of each mapper that are neither as at the start nor at their bounds.
var between = map[int][][]byte{
	0: {{0, 0, 0, 0, 0}},
	1: {{0, 6, 0, 2, 0}, {1, 17, 0, 1, 1}},
	2: {{0, 6, 0, 0, 0}, {1, 9, 0, 0, 0}},
	3: {{0, 6, 0, 2, 0}, {1, 99, 0, 9, 0}},
	5: {{0, 6, 1, 2, 0}, {1, 199, 0, 9, 0}},
}

// TestD3Written: writes and what the registers are behind them.
func TestD3Written(t *testing.T) {
	for _, c := range []struct {
		kind byte
		all  []write
		want []byte
	}{
		{1, nil, []byte{0, 1, 0, 0, 0}},
		{1, []write{{0, 10}}, []byte{1, 1, 0, 0, 0}},
		{1, []write{{0x1fff, 0xfa}}, []byte{1, 1, 0, 0, 0}},
		{1, []write{{0, 10}, {0x1fff, 0xa0}}, []byte{0, 1, 0, 0, 0}},
		{1, []write{{0, 10}, {0, 11}}, []byte{0, 1, 0, 0, 0}},
		{1, []write{{0x2000, 31}}, []byte{0, 31, 0, 0, 0}},
		{1, []write{{0x2000, 6}, {0x3fff, 0x20}}, []byte{0, 1, 0, 0, 0}},
		{1, []write{{0x2000, 6}, {0x3fff, 0}}, []byte{0, 1, 0, 0, 0}},
		{1, []write{{0x4000, 7}}, []byte{0, 1, 0, 3, 0}},
		{1, []write{{0x4000, 3}, {0x5fff, 0xfc}}, []byte{0, 1, 0, 0, 0}},
		{1, []write{{0x6000, 0xff}}, []byte{0, 1, 0, 0, 1}},
		{1, []write{{0x7fff, 1}, {0x7fff, 2}}, []byte{0, 1, 0, 0, 0}},
		{5, []write{{0x0000, 0x1a}}, []byte{1, 1, 0, 0, 0}},
		{5, []write{{0x0100, 0x1a}}, []byte{0, 10, 0, 0, 0}},
		{5, []write{{0x3eff, 10}, {0x3fff, 15}}, []byte{1, 15, 0, 0, 0}},
		{5, []write{{0x0100, 7}, {0x0300, 0x30}}, []byte{0, 1, 0, 0, 0}},
		{5, []write{{0x0000, 10}, {0x3e00, 0xa0}}, []byte{0, 1, 0, 0, 0}},
		{5, []write{{0x4000, 10}, {0x4100, 5}, {0x6100, 5}, {0x7fff, 5}}, []byte{0, 1, 0, 0, 0}},
		{0x11, []write{{0x1000, 0x3a}, {0x2000, 0xff}, {0x4000, 0xff}, {0x6000, 0xff}}, []byte{1, 127, 0, 15, 0}},
		{0x11, []write{{0x2000, 5}, {0x3fff, 0x80}, {0x4000, 5}, {0x5fff, 0x10}}, []byte{0, 1, 0, 0, 0}},
		{0x19, []write{{0, 0x1a}, {0x2000, 255}, {0x3000, 255}, {0x4000, 255}, {0x6000, 255}}, []byte{0, 255, 1, 15, 0}},
		{0x19, []write{{0x1fff, 10}, {0x2fff, 0}, {0x3fff, 2}, {0x5fff, 0x10}, {0x7fff, 1}}, []byte{1, 0, 0, 0, 0}},
		{0, []write{{0, 10}, {0x2000, 5}, {0x3000, 1}, {0x4000, 1}, {0x6000, 1}}, []byte{0, 0, 0, 0, 0}},
	} {
		m := made(t, numbered(c.kind, 0, 0), nil)
		writes(m, c.all...)
		if r := registers(m); !slices.Equal(r, c.want) {
			t.Errorf("D3: type %02x, %v: registers %v, want %v", c.kind, c.all, r, c.want)
		}
	}
}

// TestD3All: at each address some bytes, and at the ends of each range all of them, held against the chapter's table.
func TestD3All(t *testing.T) {
	few := []byte{0, 3, 10, 0x5a, 0xe0, 0xff}
	for _, p := range plain {
		c := made(t, numbered(p.kind, 0, 0), nil)
		try := func(before []byte, addr int, v byte) {
			state := append(slices.Clone(before), make([]byte, c.Header().Ram)...)
			if e := c.Load(state); e != api.OK {
				t.Fatalf("D6: mapper %d: Load of the registers %v = %d", p.mapper, before, e)
			}
			c.Write(addr, v)
			if want := ruled(p.mapper, before, addr, v); !slices.Equal(registers(c), want) {
				t.Fatalf("D3: mapper %d: Write(%04x, %02x): registers %v, want %v", p.mapper, addr, v, registers(c), want)
			}
		}
		for _, before := range between[p.mapper] {
			for addr := range 0x8000 {
				for _, v := range few {
					try(before, addr, v)
				}
			}
			for at := 0; at <= 0x8000; at += 0x1000 {
				for _, addr := range []int{at - 1, at, at + 0xff, at + 0x100, at + 0x1ff, at + 0x200} {
					for v := range 256 {
						try(before, addr, byte(v))
					}
				}
			}
		}
	}
}

// ruled tells the registers behind a write, by the model's table.
func ruled(mapper int, before []byte, addr int, v byte) []byte {
	m := modelOf(mapper, nil, nil)
	for i, name := range []string{"on", "low", "high", "pick", "mode"} {
		m.registers[name] = int(before[i])
	}
	m.write(addr, v)
	return m.state()
}

// TestD3Elsewhere: no write to the RAM, to what is not there, or outside sets a register.
func TestD3Elsewhere(t *testing.T) {
	each([]byte{0}, func(s sort, code, ram byte) {
		for _, before := range between[s.mapper] {
			c := made(t, numbered(s.kind, code, ram), nil)
			load(t, c, before[0], before[1], before[2], before[3], before[4])
			for _, addr := range append(slices.Concat(outside, unused), 0xa000, 0xa100, 0xb000, 0xbfff) {
				for _, v := range []byte{0, 1, 10, 255} {
					c.Write(addr, v)
					if r := registers(c); !slices.Equal(r, before) {
						t.Fatalf("D3: type %02x: Write(%x, %d): registers %v, want %v", s.kind, addr, v, r, before)
					}
				}
			}
		}
	})
}

// TestD3Runs: many writes one behind the other.
func TestD3Runs(t *testing.T) {
	r := rand.New(rand.NewSource(3))
	for _, p := range plain {
		c := made(t, numbered(p.kind, 0, 0), nil)
		m := modelOf(p.mapper, nil, make([]byte, c.Header().Ram))
		for i := range 20000 {
			addr, v := r.Intn(0x8000), anyByte(r)
			c.Write(addr, v)
			m.write(addr, v)
			if !slices.Equal(c.State(), m.state()) {
				t.Fatalf("D3: mapper %d, write %d: Write(%04x, %02x): registers %v, want %v", p.mapper, i, addr, v, registers(c), m.state()[:5])
			}
		}
	}
}

// anyByte is one, and often one that counts.
func anyByte(r *rand.Rand) byte {
	if r.Intn(3) == 0 {
		return []byte{10, 0x1a, 0, 1, 3, 16, 32, 128}[r.Intn(8)]
	}
	return byte(r.Intn(256))
}

// TestD3Apart: a cartridge's registers are its own.
func TestD3Apart(t *testing.T) {
	for _, p := range plain {
		rom := numbered(p.kind, 0, 0)
		a, b := made(t, rom, nil), made(t, rom, nil)
		was := b.State()
		for addr := range 0x8000 {
			a.Write(addr, byte(addr))
		}
		if !slices.Equal(b.State(), was) {
			t.Errorf("D3: mapper %d: writes to one cartridge set registers of another one", p.mapper)
		}
		if c, _ := cart.New(rom, nil); !slices.Equal(c.State(), was) {
			t.Errorf("D3: mapper %d: writes to one cartridge count for a new one", p.mapper)
		}
	}
}
