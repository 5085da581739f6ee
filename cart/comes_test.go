package cart_test

import (
	"math/rand"
	"slices"
	"testing"

	"arcade/api"
	"arcade/cart"
)

// alike tells whether two cartridges are so, and stay so with the same writes.
func alike(t *testing.T, r *rand.Rand, a, b *cart.Cart) bool {
	t.Helper()
	for range 300 {
		if !slices.Equal(registers(a), registers(b)) {
			return false
		}
		for range 8 {
			addr := anyAddress(r)
			if a.Read(addr) != b.Read(addr) {
				return false
			}
		}
		addr, v := anyAddress(r), anyByte(r)
		a.Write(addr, v)
		b.Write(addr, v)
	}
	return slices.Equal(whole(a), whole(b)) && slices.Equal(a.State(), b.State()) && slices.Equal(a.Save(), b.Save())
}

// used is a cartridge to which was written a lot.
func used(t *testing.T, r *rand.Rand, rom []byte) *cart.Cart {
	t.Helper()
	c := made(t, rom, nil)
	for range 2000 {
		c.Write(anyAddress(r), anyByte(r))
		c.Write(r.Intn(2)*0x100, 10)
	}
	return c
}

// again writes registers as another cartridge has them.
func again(c *cart.Cart, mapper int, r []byte) {
	low := 0x2000
	if mapper == 2 {
		low = 0x2100
	}
	writes(c, write{0, 10 * r[0]}, write{low, r[1]}, write{0x4000, r[3]}, write{0x6000, r[4]})
	if mapper == 5 {
		c.Write(0x3000, r[2])
	}
}

// TestD7Saved: a cartridge that is made of what Save told reads as the one that told it, once its registers are set alike.
func TestD7Saved(t *testing.T) {
	r := rand.New(rand.NewSource(71))
	each([]byte{0, 2}, func(s sort, code, ram byte) {
		rom := mixed(s.kind, code, ram)
		for range 3 {
			a := used(t, r, rom)
			b := made(t, rom, a.Save())
			if !s.battery {
				if len(a.Save()) != 0 {
					t.Errorf("D7: type %02x: a save without a battery", s.kind)
				}
				continue
			}
			again(b, s.mapper, registers(a))
			if !slices.Equal(a.State(), b.State()) || !slices.Equal(whole(a), whole(b)) || !alike(t, r, a, b) {
				t.Errorf("D7: type %02x, RAM's code %d: made of a save it is another one: registers %v, want %v", s.kind, ram, registers(b), registers(a))
			}
		}
	})
}

// TestD7Loaded: to load one's own state changes nothing; to load another one's makes a cartridge like it.
func TestD7Loaded(t *testing.T) {
	r := rand.New(rand.NewSource(72))
	each([]byte{0, 2}, func(s sort, code, ram byte) {
		rom := mixed(s.kind, code, ram)
		a, b := used(t, r, rom), used(t, r, rom)
		state, all := a.State(), whole(a)
		if e := a.Load(a.State()); e != api.OK || !slices.Equal(a.State(), state) || !slices.Equal(whole(a), all) {
			t.Errorf("D7: type %02x: Load of its own state = %d, or something is changed", s.kind, e)
		}
		for _, other := range []*cart.Cart{b, made(t, rom, nil)} {
			if e := other.Load(a.State()); e != api.OK || !slices.Equal(other.State(), a.State()) || !alike(t, r, a, other) {
				t.Errorf("D7: type %02x: behind Load of another one's state (%d) it is not like that", s.kind, e)
			}
		}
	})
}

// TestD7OneByte: what is written to the RAM is read there, changes no ROM, and no other byte of any bank.
func TestD7OneByte(t *testing.T) {
	r := rand.New(rand.NewSource(73))
	each([]byte{1, 0}, func(s sort, code, ram byte) {
		size := s.ramSize(ram)
		if size == 0 || code == 0 && s.mapper != 0 {
			return
		}
		rom := mixed(s.kind, code, ram)
		c := made(t, rom, nil)
		if s.mapper != 0 {
			load(t, c, 1, 1, 0, 0, 0)
		}
		bytes := fill(s.mapper, size, 6)
		if e := c.Load(slices.Concat(registers(c), bytes)); e != api.OK {
			t.Fatalf("D6: Load = %d", e)
		}
		front := whole(c)[:32768]
		for range 150 {
			bank, addr, v := r.Intn(max(1, size/8192)), 0xa000+r.Intn(8192), byte(r.Intn(256))
			writes(c, write{0x6000, 1}, write{0x4000, byte(bank)})
			c.Write(addr, v)
			at := (bank*8192 + addr - 0xa000) % size
			bytes[at] = v
			want := v
			if s.mapper == 2 {
				bytes[at], want = v%16, v%16+240
			}
			reads(t, "D7", c, read{addr, want})
			if !slices.Equal(c.State()[5:], bytes) {
				t.Fatalf("D7: type %02x: Write(%04x, %02x) to bank %d changes other bytes", s.kind, addr, v, bank)
			}
		}
		writes(c, write{0x6000, 0}, write{0x4000, 0})
		if !slices.Equal(whole(c)[:32768], front) {
			t.Errorf("D7: type %02x: what is written to the RAM changes the ROM", s.kind)
		}
	})
}

// TestD7Changed: a header with one byte changed is refused, by New too.
func TestD7Changed(t *testing.T) {
	for _, s := range sorts {
		rom := numbered(s.kind, 0, s.codes[0])
		for at := 0x104; at <= 0x14d; at++ {
			for _, by := range []byte{1, 0x80, 0xff, 0x55} {
				rom[at] += by
				if h, e := cart.Check(rom); e == api.OK || h != (api.Header{}) {
					t.Errorf("D7: type %02x: with another byte at %04x: %+v, %d", s.kind, at, h, e)
				}
				if c, e := cart.New(rom, nil); e == api.OK || c != nil {
					t.Errorf("D7: type %02x: New with another byte at %04x: %d", s.kind, at, e)
				}
				rom[at] -= by
			}
		}
		made(t, rom, nil)
	}
}

// TestD7Looks: what only looks changes nothing.
func TestD7Looks(t *testing.T) {
	r := rand.New(rand.NewSource(74))
	each([]byte{0}, func(s sort, code, ram byte) {
		rom := mixed(s.kind, code, ram)
		a, b := made(t, rom, nil), made(t, rom, nil)
		for range 400 {
			addr, v := anyAddress(r), anyByte(r)
			a.Write(addr, v)
			b.Write(addr, v)
			a.Read(anyAddress(r))
			a.Header()
			if r.Intn(40) == 0 {
				a.Save()
				a.State()
				a.Load(nil)
			}
		}
		if !slices.Equal(a.State(), b.State()) || !slices.Equal(whole(a), whole(b)) {
			t.Errorf("D7: type %02x: to look at it changes it", s.kind)
		}
	})
}
