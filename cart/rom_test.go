package cart_test

import (
	"slices"
	"testing"

	"arcade/api"
	"arcade/cart"
)

// TestD4Written: banks that are written out.
func TestD4Written(t *testing.T) {
	for _, c := range []struct {
		kind, code   byte
		all          []write
		lower, upper byte
	}{
		{0, 0, []write{{0x2000, 0}, {0x4000, 3}}, 0, 1},
		{1, 0, nil, 0, 1},
		{1, 1, []write{{0x2000, 6}}, 0, 2},
		{1, 6, []write{{0x2000, 0}, {0x4000, 1}}, 0, 33},
		{1, 6, []write{{0x2000, 31}, {0x4000, 3}}, 0, 127},
		{1, 6, []write{{0x2000, 5}, {0x4000, 3}, {0x6000, 1}}, 96, 101},
		{1, 6, []write{{0x2000, 5}, {0x4000, 1}, {0x6000, 1}, {0x6000, 0}}, 0, 37},
		{1, 5, []write{{0x2000, 1}, {0x4000, 2}}, 0, 1},
		{1, 5, []write{{0x2000, 1}, {0x4000, 3}, {0x6000, 1}}, 32, 33},
		{1, 5, []write{{0x2000, 32}, {0x4000, 1}}, 0, 33},
		{1, 4, []write{{0x2000, 17}, {0x4000, 3}, {0x6000, 1}}, 0, 17},
		{1, 1, []write{{0x4000, 2}, {0x6000, 1}}, 0, 1},
		{1, 0, []write{{0x2000, 2}}, 0, 0},
		{5, 3, []write{{0x0100, 15}}, 0, 15},
		{5, 3, []write{{0x0100, 0}}, 0, 1},
		{5, 2, []write{{0x0100, 12}}, 0, 4},
		{5, 0, []write{{0x0100, 14}}, 0, 0},
		{0x11, 6, []write{{0x2000, 32}, {0x4000, 3}}, 0, 32},
		{0x11, 6, []write{{0x2000, 0xff}}, 0, 127},
		{0x11, 6, []write{{0x2000, 0}}, 0, 1},
		{0x11, 4, []write{{0x2000, 96}}, 0, 0},
		{0x19, 6, []write{{0x2000, 0}}, 0, 0},
		{0x19, 6, []write{{0x2000, 127}}, 0, 127},
		{0x19, 6, []write{{0x2000, 255}, {0x3000, 1}}, 0, 127},
		{0x19, 6, []write{{0x2000, 128 + 77}}, 0, 77},
		{0x19, 0, []write{{0x2000, 3}, {0x3000, 1}}, 0, 1},
	} {
		m := made(t, numbered(c.kind, c.code, 0), nil)
		writes(m, c.all...)
		reads(t, "D4", m, read{0, c.lower}, read{0x3fff, c.lower}, read{0x4000, c.upper}, read{0x7fff, c.upper})
		if t.Failed() {
			t.Fatalf("D4: type %02x, ROM's code %d, %v", c.kind, c.code, c.all)
		}
	}
}

// settings calls f with all registers that a mapper may have, ON aside.
func settings(mapper int, f func(low, high, pick, mode byte)) {
	most := map[int][4]int{0: {0, 0, 0, 0}, 1: {31, 0, 3, 1}, 2: {15, 0, 0, 0}, 3: {127, 0, 15, 0}, 5: {255, 1, 15, 0}}[mapper]
	least := 1
	if mapper == 0 || mapper == 5 {
		least = 0
	}
	for low := least; low <= most[0]; low++ {
		for high := range most[1] + 1 {
			for pick := range most[2] + 1 {
				for mode := range most[3] + 1 {
					f(byte(low), byte(high), byte(pick), byte(mode))
				}
			}
		}
	}
}

// TestD4Banks: all registers, with each number of banks: which bank is seen, and the place in it at both ends and between.
func TestD4Banks(t *testing.T) {
	places := []int{0, 1, 0x0fff, 0x2000, 0x3ffe, 0x3fff}
	for _, p := range plain {
		for code := range byte(7) {
			if p.mapper == 0 && code > 0 || p.mapper == 2 && code > 3 {
				continue
			}
			rom := mixed(p.kind, code, 0)
			c, m := made(t, rom, nil), modelOf(p.mapper, rom, nil)
			settings(p.mapper, func(low, high, pick, mode byte) {
				load(t, c, 0, low, high, pick, mode)
				m.registers = map[string]int{"low": int(low), "high": int(high), "pick": int(pick), "mode": int(mode)}
				first, second := m.first()%(2<<code)*16384, m.second()%(2<<code)*16384
				for _, at := range places {
					if a, b := c.Read(at), c.Read(0x4000+at); a != rom[first+at] || b != rom[second+at] {
						t.Fatalf("D4: mapper %d, %d banks, registers %v: at %04x %02x, want %02x; behind %02x, want %02x", p.mapper, 2<<code, registers(c), at, a, rom[first+at], b, rom[second+at])
					}
				}
			})
		}
	}
}

// TestD4Whole: all addresses of the ROM, of each type.
func TestD4Whole(t *testing.T) {
	each([]byte{0, 1, 3, 6}, func(s sort, code, ram byte) {
		rom := mixed(s.kind, code, ram)
		c, m := made(t, rom, nil), modelOf(s.mapper, rom, nil)
		for _, w := range []write{{0x8000, 0}, {0x2000, 3}, {0x0100, 3}, {0x4000, 2}, {0x6000, 1}} {
			c.Write(w.addr, w.v)
			m.write(w.addr, w.v)
			for addr := range 0x8000 {
				if v := c.Read(addr); v != m.read(addr) {
					t.Fatalf("D4: type %02x, %d banks, behind Write(%04x, %d): Read(%04x) = %02x, want %02x", s.kind, 2<<code, w.addr, w.v, addr, v, m.read(addr))
				}
			}
		}
	})
}

// TestD4Never: of mapper 1 the banks 0, 32, 64 and 96 are never seen behind, but where the number of banks makes others of them.
func TestD4Never(t *testing.T) {
	for code, want := range map[byte]int{6: 124, 5: 62, 4: 31, 3: 16, 0: 2} {
		c := made(t, numbered(1, code, 0), nil)
		seen := map[byte]bool{}
		for pick := range 4 {
			for low := range 256 {
				writes(c, write{0x4000, byte(pick)}, write{0x2000, byte(low)})
				seen[c.Read(0x4000)] = true
			}
		}
		if len(seen) != want || code >= 5 && (seen[0] || seen[32]) {
			t.Errorf("D4: mapper 1 with %d banks shows %d of them behind, want %d", 2<<code, len(seen), want)
		}
	}
}

// TestD4Stays: no write changes the ROM, whatever is seen.
func TestD4Stays(t *testing.T) {
	each([]byte{1, 0}, func(s sort, code, ram byte) {
		rom := mixed(s.kind, code, ram)
		c := made(t, rom, nil)
		for _, v := range []byte{10, 0x77} {
			for addr := range 65536 {
				c.Write(addr, v)
			}
			for _, addr := range outside {
				c.Write(addr, v)
			}
		}
		for bank := range 2 << code {
			see(c, s.mapper, bank)
			fresh := made(t, rom, nil)
			if e := fresh.Load(c.State()); e != api.OK || !slices.Equal(whole(c), whole(fresh)) {
				t.Fatalf("D4: type %02x: the ROM is another one behind writes (bank %d, Load = %d)", s.kind, bank, e)
			}
		}
	})
}

// see makes a bank be seen behind the first one, which is bank 0.
func see(c *cart.Cart, mapper, bank int) {
	at := 0x2000
	if mapper == 2 {
		at = 0x2100
	}
	writes(c, write{at, byte(bank)}, write{0x6000, 0})
	if mapper == 1 {
		c.Write(0x4000, 0)
	}
	if mapper == 5 {
		c.Write(0x3000, 0)
	}
}
