package cart_test

import (
	"slices"
	"testing"

	"arcade/api"
)

// TestD6Save: what a battery keeps, and what none does.
func TestD6Save(t *testing.T) {
	each([]byte{0}, func(s sort, code, ram byte) {
		c := made(t, numbered(s.kind, code, ram), nil)
		size := 0
		if s.battery {
			size = s.ramSize(ram)
		}
		if save := c.Save(); !slices.Equal(save, make([]byte, size)) {
			t.Errorf("D6: type %02x: Save of a new one has %d bytes, want %d, all 0", s.kind, len(save), size)
		}
		writes(c, write{0, 10}, write{0xa000, 0xc3}, write{0xa1ff, 0x3c}, write{0, 0})
		want := make([]byte, s.ramSize(ram))
		if len(want) > 0 {
			want[0], want[0x1ff] = 0xc3, 0x3c
		}
		if s.mapper == 2 {
			want[0], want[0x1ff] = 3, 12
		}
		if save := c.Save(); !slices.Equal(save, want[:size]) {
			t.Errorf("D6: type %02x: Save is not what was written: %d bytes, want %d", s.kind, len(save), size)
		}
		if state := c.State(); !slices.Equal(state[5:], want) {
			t.Errorf("D6: type %02x: State has not what was written: %d bytes, want %d", s.kind, len(state), 5+len(want))
		}
	})
}

// TestD6State: its five bytes, written out, and all banks of the RAM, one behind the other.
func TestD6State(t *testing.T) {
	for _, c := range []struct {
		kind, ram byte
		all       []write
		at        int // of the byte 7, which was written last
		want      []byte
	}{
		{8, 2, []write{{0x2000, 3}, {0xbfff, 7}}, 8191, []byte{0, 0, 0, 0, 0}},
		{2, 3, []write{{0, 10}, {0x2000, 9}, {0x4000, 3}, {0x6000, 1}, {0xa001, 7}}, 3*8192 + 1, []byte{1, 9, 0, 3, 1}},
		{2, 3, []write{{0, 10}, {0x4000, 3}, {0xa001, 7}}, 1, []byte{1, 1, 0, 3, 0}},
		{5, 0, []write{{0, 10}, {0x0100, 9}, {0xa201, 0x17}}, 1, []byte{1, 9, 0, 0, 0}},
		{0x12, 3, []write{{0, 10}, {0x2000, 99}, {0x4000, 2}, {0xa002, 7}}, 2*8192 + 2, []byte{1, 99, 0, 2, 0}},
		{0x1a, 4, []write{{0, 10}, {0x2000, 200}, {0x3000, 1}, {0x4000, 15}, {0xbfff, 7}}, 131071, []byte{1, 200, 1, 15, 0}},
		{0x1a, 5, []write{{0, 10}, {0x4000, 9}, {0xa000, 7}, {0, 0}}, 8192, []byte{0, 1, 0, 9, 0}},
	} {
		m := made(t, numbered(c.kind, 0, c.ram), nil)
		writes(m, c.all...)
		want := append(slices.Clone(c.want), make([]byte, m.Header().Ram)...)
		want[5+c.at] = 7
		if state := m.State(); !slices.Equal(state, want) {
			t.Errorf("D6: type %02x, %v: State has %d bytes, registers %v, want %d, %v, and 7 at %d", c.kind, c.all, len(state), registers(m), len(want), c.want, c.at)
		}
	}
}

// TestD6Registers: each register with each byte: taken, where a write could give it, else refused, and nothing is changed.
func TestD6Registers(t *testing.T) {
	bounds := map[int][5][2]int{
		0: {},
		1: {{0, 1}, {1, 31}, {}, {0, 3}, {0, 1}},
		2: {{0, 1}, {1, 15}},
		3: {{0, 1}, {1, 127}, {}, {0, 15}},
		5: {{0, 1}, {0, 255}, {0, 1}, {0, 15}},
	}
	each([]byte{0}, func(s sort, code, ram byte) {
		rams := [][]byte{fill(s.mapper, s.ramSize(ram), 1), fill(s.mapper, s.ramSize(ram), 2)}
		for _, before := range between[s.mapper] {
			c := made(t, numbered(s.kind, code, ram), nil)
			load(t, c, before[0], before[1], before[2], before[3], before[4])
			for i := range 5 {
				for v := range 256 {
					if ram > 2 && v > 32 && v%16 != 15 && v%16 != 0 { // as of the smaller RAM
						continue
					}
					state := slices.Concat(before, rams[v%2])
					state[i] = byte(v)
					was := c.State()
					e := c.Load(state)
					if v >= bounds[s.mapper][i][0] && v <= bounds[s.mapper][i][1] {
						if e != api.OK || !slices.Equal(c.State(), state) {
							t.Fatalf("D6: type %02x: Load with the registers %v = %d, or it is not so", s.kind, state[:5], e)
						}
					} else if e != api.ErrCartState || !slices.Equal(c.State(), was) {
						t.Fatalf("D6: type %02x: Load with the registers %v = %d, or something is changed", s.kind, state[:5], e)
					}
				}
			}
		}
	})
}

// TestD6Given: what is taken is what some writes give, one byte at each kind of address, and no more.
func TestD6Given(t *testing.T) {
	for _, p := range plain {
		c := made(t, numbered(p.kind, 0, 0), nil)
		rest := make([]byte, c.Header().Ram)
		var given [5][256]bool
		for i, v := range registers(c) {
			given[i][v] = true
		}
		for at := 0; at < 0x8000; at += 0x100 {
			for v := range 256 {
				c.Write(at, byte(v))
				for i, r := range registers(c) {
					given[i][r] = true
				}
			}
		}
		for i := range 5 {
			for v := range 256 {
				state := slices.Concat(between[p.mapper][0], rest)
				state[i] = byte(v)
				if e := c.Load(state); (e == api.OK) != given[i][v] {
					t.Errorf("D6: mapper %d: Load with the registers %v = %d; can it be given? %v", p.mapper, state[:5], e, given[i][v])
				}
			}
		}
	}
}

// TestD6Lengths: states that are too short, too long, or of other cartridges.
func TestD6Lengths(t *testing.T) {
	lengths := []int{0, 1, 4, 5, 6, 511, 512, 516, 517, 518, 8191, 8192, 8196, 8197, 8198, 32772, 32773, 32774, 65540, 65541, 65542, 131076, 131077, 131078, 200000}
	each([]byte{0}, func(s sort, code, ram byte) {
		c := made(t, numbered(s.kind, code, ram), nil)
		writes(c, write{0, 10}, write{0xa000, 5})
		was := c.State()
		for _, n := range lengths {
			state := make([]byte, n)
			copy(state, []byte{0, 1, 0, 0, 0}[:min(n, 5)])
			if s.mapper == 0 && n > 1 {
				state[1] = 0
			}
			e := c.Load(state)
			if n == 5+s.ramSize(ram) {
				if e != api.OK || !slices.Equal(c.State(), state) {
					t.Errorf("D6: type %02x: Load of %d bytes = %d, or it is not so", s.kind, n, e)
				}
				c.Load(was)
			} else if e != api.ErrCartState || !slices.Equal(c.State(), was) {
				t.Errorf("D6: type %02x: Load of %d bytes = %d, or something is changed", s.kind, n, e)
			}
		}
		if e := c.Load(nil); e != api.ErrCartState {
			t.Errorf("D6: type %02x: Load(nil) = %d", s.kind, e)
		}
	})
}

// TestD6Halves: a state of mapper 2 with more than a half byte, wherever it is; other RAM may have all bytes.
func TestD6Halves(t *testing.T) {
	for _, kind := range []byte{5, 6} {
		c := made(t, numbered(kind, 0, 0), nil)
		writes(c, write{0, 10}, write{0xa010, 5})
		was := c.State()
		for at := 5; at < len(was); at++ {
			for _, v := range []byte{15, 16, 0x50, 128, 240, 255} {
				state := slices.Clone(was)
				state[1], state[at] = 9, v
				want, then := api.OK, state
				if v > 15 {
					want, then = api.ErrCartState, was
				}
				if e := c.Load(state); e != want || !slices.Equal(c.State(), then) {
					t.Fatalf("D6: type %02x: Load with %d at %d = %d, want %d, or it is not so", kind, v, at, e, want)
				}
				c.Load(was)
			}
		}
	}
	for _, kind := range []byte{2, 3, 8, 9, 0x12, 0x13, 0x1a, 0x1b} {
		c := made(t, numbered(kind, 0, 2), nil)
		state := slices.Concat(registers(c), slices.Repeat([]byte{255}, 8192))
		if e := c.Load(state); e != api.OK || !slices.Equal(c.State(), state) {
			t.Errorf("D6: type %02x: Load of a RAM that is all 255 = %d", kind, e)
		}
	}
}

// TestD6Lists: what is told is new memory, what is handed in is neither kept nor changed.
func TestD6Lists(t *testing.T) {
	each([]byte{0}, func(s sort, code, ram byte) {
		c := made(t, numbered(s.kind, code, ram), nil)
		state := slices.Concat(between[s.mapper][1%len(between[s.mapper])], fill(s.mapper, s.ramSize(ram), 9))
		given := roomy(state)
		if e := c.Load(given); e != api.OK || !spared(given, state) {
			t.Fatalf("D6: type %02x: Load = %d, or its list is changed", s.kind, e)
		}
		scratch(given)
		scratch(c.State())
		scratch(c.Save())
		if !slices.Equal(c.State(), state) || s.battery && !slices.Equal(c.Save(), state[5:]) {
			t.Errorf("D6: type %02x: lists are shared", s.kind)
		}
		told, kept := c.State(), c.Save()
		want := slices.Clone(kept)
		scratch(told)
		c.Write(0, 10)
		for addr := 0xa000; addr < 0xc000; addr++ {
			c.Write(addr, 0)
		}
		if !slices.Equal(kept, want) {
			t.Errorf("D6: type %02x: what Save told changes with the RAM", s.kind)
		}
	})
}

// scratch overwrites a list, its spare room too.
func scratch(list []byte) {
	list = list[:cap(list)]
	for i := range list {
		list[i] ^= 0xff
	}
}
