package board_test

import (
	"math/rand"
	"slices"
	"testing"

	"arcade/api"
	"arcade/board"
	"arcade/cart"
)

// both are a board and the model, to which the same is done.
type both struct {
	b *board.Board
	m *model
}

// newBoth has a cartridge of the bytes, or none, where they are nil.
func newBoth(t *testing.T, bytes []byte) both {
	t.Helper()
	var one, two *cart.Cart
	if bytes != nil {
		one, two = cartridge(t, bytes), cartridge(t, bytes)
	}
	return both{built(t, one), newModel(two)}
}

func (x both) poke(t *testing.T, addr, v int) {
	t.Helper()
	poke(t, x.b, addr, v)
	x.m.write(addr, v)
}

func (x both) press(t *testing.T, down int) {
	t.Helper()
	is(t, "B4: Press", x.b.Press(down), x.m.o.Press(down))
}

func (x both) set(t *testing.T, r api.Regs) {
	t.Helper()
	is(t, "B4: SetRegs", x.b.SetRegs(r), x.m.p.Set(r))
}

func (x both) cycle(t *testing.T) {
	t.Helper()
	x.b.Cycle()
	x.m.cycle()
	if x.b.Regs() != x.m.p.Regs() || x.b.Boundary() != x.m.p.Boundary() {
		t.Fatalf("7.3: in the cycle %d: Regs %+v, Boundary %v, want %+v, %v", x.m.now, x.b.Regs(), x.b.Boundary(), x.m.p.Regs(), x.m.p.Boundary())
	}
}

// alike holds all that they tell against each other.
func (x both) alike(t *testing.T) {
	t.Helper()
	if !slices.Equal(x.b.State(), x.m.state()) {
		t.Fatalf("7.3: in the cycle %d State tells others than the model's; the mover %v, want %v", x.m.now, tail(x.b), x.m.mover())
	}
	if !slices.Equal(x.b.Sent(), x.m.o.Sent()) || !slices.Equal(x.b.Frame(), x.m.g.Frame()) {
		t.Fatalf("B4: in the cycle %d Sent or Frame are others than the model's", x.m.now)
	}
}

// looks holds some addresses against the model's.
func (x both) looks(t *testing.T, r *rand.Rand) {
	t.Helper()
	for range 3 {
		addr := someAddress(r)
		if v, want := x.b.Peek(addr), x.m.read(addr); v != want {
			t.Fatalf("B3: in the cycle %d Peek(%04x) = %d, want %d", x.m.now, addr, v, want)
		}
	}
}

// someAddress is any, with a hand that likes edges, and where the devices are.
func someAddress(r *rand.Rand) int {
	switch r.Intn(4) {
	case 0:
		return edges[r.Intn(len(edges))]
	case 1:
		return 0xfe00 + r.Intn(0x200)
	}
	return r.Intn(65536)
}

// instruction is one that reads or writes somewhere, goes somewhere, or has to do with interrupts.
func instruction(r *rand.Rand) []byte {
	addr := someAddress(r)
	lower, upper := byte(addr), byte(addr>>8)
	port := []byte{0x46, 0x46, 0x46, 0x0f, 0xff, 0x04, 0x05, 0x07, 0x02, 0x00, 0x40, 0x41, 0x45, 0x80, byte(r.Intn(256))}[r.Intn(15)]
	list := [][]byte{
		{0xe0, port}, {0xe0, port}, {0xe0, port}, {0xf0, port}, // ldh
		{0x3e, byte(r.Intn(256))}, {0x3e, byte(0xc0 + r.Intn(64))}, // ld a
		{0xea, lower, upper}, {0xfa, lower, upper}, {0x08, lower, upper}, // ld
		{0x21, lower, upper}, {0x01, lower, upper}, {0x11, lower, upper}, // ld rr
		{0x22}, {0x2a}, {0x32}, {0x34}, {0x77}, {0x7e}, {0x12}, {0x1a}, {0x86}, {0xae}, {0xe2}, {0xf2},
		{0xcb, 0x46}, {0xcb, 0xc6}, {0xcb, 0x16}, {0x36, byte(r.Intn(256))},
		{0xf5}, {0xc5}, {0xe1}, {0xc1}, {0x31, lower, upper},
		{0xfb}, {0xfb}, {0xf3}, {0x76}, {0x10, 0}, {0xd9},
		{0xcd, lower, upper}, {0xc9}, {0x18, byte(r.Intn(6))}, {0x20, byte(r.Intn(6))}, {0xff},
		{0x3c}, {0x04}, {0x80}, {0x00}, {0x00}, {0x27},
	}
	return list[r.Intn(len(list))]
}

// furnish fills memory with instructions.
func (x both) furnish(t *testing.T, r *rand.Rand) {
	t.Helper()
	for _, span := range [][2]int{{vram, ram}, {work, echo}, {sound, lcdc}, {high, let}} {
		for addr := span[0]; addr < span[1]; {
			for _, v := range instruction(r) {
				if addr < span[1] {
					x.poke(t, addr, int(v))
				}
				addr++
			}
		}
	}
}

// start lets the processor begin somewhere, in whatever it may be.
func (x both) start(t *testing.T, r *rand.Rand) {
	t.Helper()
	regs := api.Regs{
		A: r.Intn(256), F: r.Intn(16) * 16, B: r.Intn(256), C: r.Intn(256), D: r.Intn(256), E: r.Intn(256), H: r.Intn(256), L: r.Intn(256),
		SP: someAddress(r), PC: []int{high + r.Intn(60), high + r.Intn(60), work + r.Intn(0x2000), r.Intn(0x8000)}[r.Intn(4)],
		IME: r.Intn(2) == 0, State: []int{0, 0, 0, 0, 0, api.Halted, api.Stopped}[r.Intn(7)],
	}
	x.set(t, regs)
}

// change does something from outside.
func (x both) change(t *testing.T, r *rand.Rand) {
	t.Helper()
	switch r.Intn(6) {
	case 0:
		x.poke(t, mover, r.Intn(256))
	case 1:
		x.poke(t, someAddress(r), r.Intn(256))
	case 2:
		x.press(t, r.Intn(256))
	case 3:
		x.poke(t, []int{let, requests, lcdc, stat, lyc, control, timer, divider, line}[r.Intn(9)], r.Intn(256))
	case 4:
		if x.b.Boundary() {
			x.start(t, r)
		}
	case 5:
		x.poke(t, []int{0, 0x2000, 0x4000, 0x6000}[r.Intn(4)], []int{10, r.Intn(256)}[r.Intn(2)])
	}
}

// kindsOf are cartridges of some kinds, filled with instructions; nil for none.
func kindsOf(t *testing.T, r *rand.Rand) [][]byte {
	t.Helper()
	list := [][]byte{nil}
	for _, k := range [][3]byte{{0, 0, 0}, {9, 0, 2}, {3, 1, 3}, {6, 0, 0}, {0x13, 1, 2}, {0x1b, 1, 3}} {
		bytes := rom(t, k[0], k[1], k[2])
		for addr := 0x150; addr < len(bytes)-4; {
			addr += copy(bytes[addr:], instruction(r))
		}
		list = append(list, bytes)
	}
	return list
}

// Test73Model: random programs, with changes from outside, few or many, held against the model cycle by cycle.
func Test73Model(t *testing.T) {
	r := rand.New(rand.NewSource(731))
	for n, bytes := range slices.Repeat(kindsOf(t, r), 3) {
		x := newBoth(t, bytes)
		x.furnish(t, r)
		often := []int{3, 40, 300}[n/7]
		for i := range 12000 {
			if r.Intn(often) == 0 {
				x.change(t, r)
			}
			if x.b.Regs().State == api.Locked {
				x.start(t, r)
			}
			x.cycle(t)
			x.looks(t, r)
			if i%251 == 0 {
				x.alike(t)
			}
		}
		x.alike(t)
	}
}

// TestB5Model: such runs go on in one board after the other, by State and Load.
func TestB5Model(t *testing.T) {
	r := rand.New(rand.NewSource(732))
	for _, bytes := range kindsOf(t, r) {
		x, other := newBoth(t, bytes), newBoth(t, bytes)
		x.furnish(t, r)
		for range 6000 {
			if r.Intn(30) == 0 {
				x.change(t, r)
			}
			if x.b.Regs().State == api.Locked {
				x.start(t, r)
			}
			x.cycle(t)
			if r.Intn(40) == 0 {
				load(t, other.b, x.b.State())
				x.b, other.b = other.b, x.b
				if !slices.Equal(x.b.State(), x.m.state()) {
					t.Fatalf("B5: in the cycle %d State behind Load tells others than the model's", x.m.now)
				}
			}
		}
	}
}
