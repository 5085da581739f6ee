package cart_test

import (
	"math/rand"
	"slices"
	"testing"
)

// TestD5Off: RAM that is not seen, since there is none, or since ON is 0.
func TestD5Off(t *testing.T) {
	each([]byte{0}, func(s sort, code, ram byte) {
		c := made(t, numbered(s.kind, code, ram), nil)
		if s.mapper == 0 && s.ramSize(ram) > 0 {
			reads(t, "D5", c, read{0xa000, 0}, read{0xbfff, 0})
			return
		}
		if s.ramSize(ram) == 0 { // ON does not make any
			c.Write(0, 10)
		}
		was := c.State()
		for addr := 0xa000; addr <= 0xbfff; addr++ {
			c.Write(addr, 0x5a)
			if v := c.Read(addr); v != 255 {
				t.Fatalf("D5: type %02x: Read(%04x) = %02x where nothing is seen", s.kind, addr, v)
			}
		}
		if !slices.Equal(c.State(), was) {
			t.Errorf("D5: type %02x: what is not seen is written", s.kind)
		}
	})
}

// TestD5Written: what is written out, mapper by mapper.
func TestD5Written(t *testing.T) {
	c := made(t, numbered(8, 0, 2), nil)
	writes(c, write{0xa000, 5}, write{0xbfff, 6}, write{0x9fff, 7}, write{0xc000, 8}, write{0, 0}, write{0x4000, 3}, write{0x6000, 1})
	reads(t, "D5: no mapper", c, read{0xa000, 5}, read{0xbfff, 6}, read{0xa001, 0}, read{0x9fff, 255}, read{0xc000, 255})

	c = made(t, numbered(3, 1, 3), nil)
	writes(c, write{0, 0x1a}, write{0x4000, 2}, write{0x6000, 1}, write{0xa000, 42})
	reads(t, "D5: mapper 1, bank 2", c, read{0xa000, 42}, read{0xa001, 0}, read{0, 0})
	c.Write(0x6000, 0)
	reads(t, "D5: mapper 1, MODE 0", c, read{0xa000, 0})
	writes(c, write{0xa000, 43}, write{0x6000, 1}, write{0x4000, 0})
	reads(t, "D5: mapper 1, bank 0", c, read{0xa000, 43})
	writes(c, write{0x4000, 6}, write{0x2000, 3})
	reads(t, "D5: mapper 1, bank 2 again", c, read{0xa000, 42})
	c.Write(0x1fff, 0x9b)
	c.Write(0xa000, 99)
	reads(t, "D5: mapper 1, OFF", c, read{0xa000, 255})
	c.Write(0x1fff, 0x9a)
	reads(t, "D5: mapper 1, ON", c, read{0xa000, 42})

	c = made(t, numbered(2, 0, 2), nil)
	writes(c, write{0, 10}, write{0x6000, 1}, write{0x4000, 3}, write{0xa123, 9}, write{0x4000, 0})
	reads(t, "D5: mapper 1, one bank", c, read{0xa123, 9})

	c = made(t, numbered(5, 0, 0), nil)
	c.Write(0x2000, 0xea)
	reads(t, "D5: mapper 2", c, read{0xa000, 0xf0}, read{0xbfff, 0xf0})
	writes(c, write{0xa1ff, 0x73}, write{0xbe00, 0x0c}, write{0x2100, 5})
	reads(t, "D5: mapper 2", c, read{0xa1ff, 0xf3}, read{0xa3ff, 0xf3}, read{0xbfff, 0xf3}, read{0xa000, 0xfc}, read{0xa200, 0xfc}, read{0xa001, 0xf0}, read{0xa100, 0xf0})

	c = made(t, numbered(0x12, 0, 2), nil)
	writes(c, write{0, 10}, write{0xa000, 1})
	for pick := range 16 {
		c.Write(0x4000, byte(pick))
		want := byte(1)
		if pick > 3 {
			want = 255
			c.Write(0xa000, 77)
		}
		reads(t, "D5: mapper 3, one bank", c, read{0xa000, want})
	}

	c = made(t, numbered(0x1a, 0, 3), nil)
	writes(c, write{0, 10}, write{0x4000, 6}, write{0xb000, 66}, write{0x4000, 0xf2})
	reads(t, "D5: mapper 5, four banks", c, read{0xb000, 66})
	c.Write(0, 0x1a)
	reads(t, "D5: mapper 5, another ten", c, read{0xb000, 255})
}

// TestD5Banks: each bank of the RAM, filled with bytes of its own, is seen by each PICK that is its own modulo the number of banks.
func TestD5Banks(t *testing.T) {
	each([]byte{0}, func(s sort, code, ram byte) {
		if s.mapper == 0 || s.ramSize(ram) == 0 {
			return
		}
		c := made(t, numbered(s.kind, code, ram), nil)
		bytes := fill(s.mapper, s.ramSize(ram), 7)
		m := modelOf(s.mapper, numbered(s.kind, code, ram), slices.Clone(bytes))
		if e := c.Load(slices.Concat([]byte{0, 1, 0, 0, 0}, bytes)); e != 0 {
			t.Fatalf("D6: Load = %d", e)
		}
		for _, w := range []write{{0, 10}, {0x6000, 1}} {
			c.Write(w.addr, w.v)
			m.write(w.addr, w.v)
		}
		for pick := range 16 {
			c.Write(0x4000, byte(pick))
			m.write(0x4000, byte(pick))
			for addr := 0x9ff0; addr < 0xc010; addr++ {
				if v := c.Read(addr); v != m.read(addr) {
					t.Fatalf("D5: type %02x, %d bytes, PICK %d: Read(%04x) = %02x, want %02x", s.kind, len(bytes), pick, addr, v, m.read(addr))
				}
			}
		}
	})
}

// TestD5Bytes: each byte that is written is read back; of mapper 2 its low half.
func TestD5Bytes(t *testing.T) {
	each([]byte{0}, func(s sort, code, ram byte) {
		if s.ramSize(ram) == 0 {
			return
		}
		c := made(t, numbered(s.kind, code, ram), nil)
		c.Write(0, 10)
		for _, addr := range []int{0xa000, 0xa001, 0xb5b5, 0xbfff} {
			for v := range 256 {
				c.Write(addr, byte(v))
				want := byte(v)
				if s.mapper == 2 {
					want = 240 + byte(v%16)
				}
				reads(t, "D5", c, read{addr, want})
			}
		}
	})
}

// TestD5Elsewhere: at all other addresses there is nothing, and nothing is written there.
func TestD5Elsewhere(t *testing.T) {
	each([]byte{0}, func(s sort, code, ram byte) {
		c := made(t, numbered(s.kind, code, ram), nil)
		c.Write(0, 10)
		was := c.State()
		none := slices.Concat(outside, unused)
		for addr := 0x8000; addr < 0xa000; addr++ {
			none = append(none, addr)
		}
		for addr := 0xc000; addr < 0x10100; addr++ {
			none = append(none, addr)
		}
		for _, addr := range none {
			c.Write(addr, 0x5a)
			if v := c.Read(addr); v != 255 {
				t.Fatalf("D5: type %02x: Read(%x) = %02x", s.kind, addr, v)
			}
		}
		if !slices.Equal(c.State(), was) {
			t.Errorf("D5: type %02x: a write elsewhere changes the RAM", s.kind)
		}
	})
}

// anyAddress is one, and often one that counts.
func anyAddress(r *rand.Rand) int {
	switch r.Intn(12) {
	case 0:
		return outside[r.Intn(len(outside))]
	case 1:
		return unused[r.Intn(len(unused))]
	case 2, 3, 4:
		return r.Intn(0x8000)
	case 5, 6, 7, 8:
		return 0xa000 + r.Intn(0x2000)
	case 9, 10:
		return 0xa000 + r.Intn(16)
	}
	return r.Intn(65536)
}

// TestD5Runs: long runs of writes and reads, of each type with each of its RAMs, held against the model.
func TestD5Runs(t *testing.T) {
	r := rand.New(rand.NewSource(5))
	each([]byte{0, 3, 5}, func(s sort, code, ram byte) {
		rom := mixed(s.kind, code, ram)
		bytes := make([]byte, s.ramSize(ram))
		var save []byte
		if s.battery {
			bytes = fill(s.mapper, len(bytes), 8)
			save = slices.Clone(bytes)
		}
		c, m := made(t, rom, save), modelOf(s.mapper, rom, bytes)
		c.Write(0, 10)
		m.write(0, 10)
		for i := range 4000 {
			addr, v := anyAddress(r), anyByte(r)
			if addr >= 0 && addr < 0x2000 && r.Intn(4) > 0 { // else ON would be 0 nearly always
				v = 10
			}
			c.Write(addr, v)
			m.write(addr, v)
			for _, at := range []int{addr, anyAddress(r), anyAddress(r)} {
				if got := c.Read(at); got != m.read(at) {
					t.Fatalf("D5: type %02x, RAM's code %d, write %d: behind Write(%x, %02x) Read(%x) = %02x, want %02x", s.kind, ram, i, addr, v, at, got, m.read(at))
				}
			}
			if i%500 == 499 && !slices.Equal(c.State(), m.state()) {
				t.Fatalf("D5: type %02x, RAM's code %d: behind %d writes the RAM is another one", s.kind, ram, i+1)
			}
		}
	})
}
