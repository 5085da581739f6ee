package console_test

import (
	"math/rand"
	"slices"
	"testing"

	"arcade/api"
	"arcade/console"
)

// TestN4State: a state is the carry, and then the board's.
func TestN4State(t *testing.T) {
	bytes := first(t, 62, 1, 24, 252)
	c, b := made(t, bytes), boardOf(t, bytes, nil)
	for i, carry := range []byte{4, 0, 8, 4} {
		f := frame(t, c, 0)
		b.Run(f.Clocks / api.CycleClocks)
		if !slices.Equal(c.State(), append([]byte{carry}, b.State()...)) {
			t.Errorf("N4: behind frame %d the State is not the carry %d and the board's", i, carry)
		}
	}
}

// TestN4Loaded: behind Load a console tells the same, and its next frame has what was carried less.
func TestN4Loaded(t *testing.T) {
	for _, bytes := range append(programs(t), first(t, 62, 1, 24, 252)) {
		c, d := made(t, bytes), made(t, bytes)
		frames(t, c, 1, 2, 3)
		frames(t, d, 255)
		state := c.State()
		lent := roomy(state)
		load(t, d, lent)
		if !spared(lent, state) {
			t.Error("N4: Load writes into its list")
		}
		scratch(lent)
		same(t, "N4: behind Load", c, d)
		if !slices.Equal(d.State(), state) {
			t.Error("N4: behind Load State tells other bytes")
		}
		if f, g := frame(t, c, 4), frame(t, d, 4); !alike(f, g) {
			t.Errorf("N4: behind Load a frame has %d clocks and not %d", g.Clocks, f.Clocks)
		}
		same(t, "N4: behind Load and a frame", c, d)
	}
}

// TestN4New: a state is new memory.
func TestN4New(t *testing.T) {
	c := made(t, rom(t, 3, 0, 3, ticking, handlers))
	frames(t, c, 1)
	state := c.State()
	was := slices.Clone(state)
	other := c.State()
	scratch(other)
	if !slices.Equal(state, was) || !slices.Equal(c.State(), was) {
		t.Error("N4: a state hangs on a list that came out")
	}
	frames(t, c, 2)
	if !slices.Equal(state, was) {
		t.Error("N4: a state is another one later")
	}
}

// TestN4Carry: of the first byte just 0, 4, 8, .. 40 are taken.
func TestN4Carry(t *testing.T) {
	bytes := first(t, 118, 24, 254)
	c := made(t, bytes)
	frames(t, c, 7)
	other := made(t, bytes)
	state := c.State()
	taken := 0
	for carry := range 256 {
		was := other.State()
		state[0] = byte(carry)
		e := other.Load(state)
		if carry > 40 || carry%4 != 0 {
			is(t, "N4: Load", e, api.ErrConsoleState)
			if !slices.Equal(other.State(), was) {
				t.Fatalf("N4: Load with a carry of %d changes something", carry)
			}
			other = made(t, bytes) // so that a board that is taken all the same is seen
			continue
		}
		taken++
		is(t, "N4: Load", e, api.OK)
		if !slices.Equal(other.State(), state) {
			t.Errorf("N4: behind Load with a carry of %d State tells other bytes", carry)
		}
		is(t, "N4: Clocks behind a carry", frame(t, other, 7).Clocks, 70224-carry)
	}
	is(t, "N4: carries", taken, 11)
}

// refuses has Load refuse a state, and then all as it was.
func refuses(t *testing.T, which string, c *console.Console, state []byte) {
	t.Helper()
	was, save, regs := c.State(), c.Save(), c.Regs()
	if e := c.Load(state); e != api.ErrConsoleState {
		t.Errorf("N4: %s: Load = %d", which, e)
	}
	if !slices.Equal(c.State(), was) || !slices.Equal(c.Save(), save) || c.Regs() != regs {
		t.Fatalf("N4: %s: Load changes something", which)
	}
}

// TestN4Refused: bytes that are no state.
func TestN4Refused(t *testing.T) {
	bytes := rom(t, 3, 0, 3, ticking, handlers)
	c, d := made(t, bytes), made(t, bytes)
	frames(t, c, 1, 2)
	frames(t, d, 4)
	other := made(t, bytes)
	frames(t, other, 4)
	state := c.State()
	if state[0] == d.State()[0] {
		state[0] = 40 - d.State()[0]
	}
	refuses(t, "nil", d, nil)
	refuses(t, "no byte", d, []byte{})
	for _, b := range []byte{0, 1, 4, 40, 44, 255} {
		refuses(t, "one byte", d, []byte{b})
	}
	for _, n := range []int{2, 3, 4, 20, 26, 27, 30, 32000, 33000, 53000, len(state) - 8374, len(state) - 6, len(state) - 5, len(state) - 2, len(state) - 1} {
		refuses(t, "too short", d, state[:n])
		refuses(t, "without its beginning", d, state[len(state)-n:])
	}
	refuses(t, "the board's alone", d, state[1:])
	refuses(t, "too long", d, append(slices.Clone(state), 0))
	refuses(t, "much too long", d, append(slices.Clone(state), state...))
	refuses(t, "two carries", d, append([]byte{0}, state...))
	same(t, "N4: behind states that are refused", d, other)
	if f, g := frame(t, d, 5), frame(t, other, 5); !alike(f, g) {
		t.Error("N4: behind states that are refused a frame is another one")
	}
}

// TestN4Board: states that the board does not take, with a carry that may be.
func TestN4Board(t *testing.T) {
	bytes := rom(t, 3, 0, 3, ticking, handlers)
	c, d := made(t, bytes), made(t, bytes)
	frames(t, c, 1)
	state := c.State()
	state[0] = 12
	cpuAt := 1 + 3
	cartAt := cpuAt + int(state[1]) + 3
	portsAt := cartAt + 5 + 32768 + 3
	for _, x := range []struct {
		which string
		at    int
		value byte
	}{
		{"the processor's length", 1, state[1] + 1},
		{"its length's highest byte", 3, 1},
		{"the cartridge's length", cartAt - 3, state[cartAt-3] + 1},
		{"the cartridge's ON", cartAt, 2},
		{"the cartridge's LOW", cartAt + 1, 0},
		{"the ports' row bits", portsAt + 1, 1},
		{"the ports' last byte", portsAt + 18, 1},
		{"the mover's bytes left", len(state) - 4, 161},
		{"the mover's cycles", len(state) - 2, 3},
	} {
		bad := slices.Clone(state)
		bad[x.at] = x.value
		refuses(t, x.which, d, bad)
	}
	load(t, d, state) // and as it was it is taken
	is(t, "N4: the carry", int(d.State()[0]), 12)
}

// TestN4Others: states of consoles with other cartridges.
func TestN4Others(t *testing.T) {
	plain := made(t, rom(t, 0, 0, 0))
	for _, x := range []struct{ kind, ramCode byte }{{9, 2}, {1, 0}, {3, 2}, {3, 3}, {6, 0}, {0x1b, 4}} {
		c := made(t, rom(t, x.kind, 0, x.ramCode))
		refuses(t, "another cartridge's", plain, c.State())
		refuses(t, "another cartridge's", c, plain.State())
	}
}

// TestN4Any: bytes that are like a state's: they are refused, or some console is made of them, which has frames within bounds.
func TestN4Any(t *testing.T) {
	r := rand.New(rand.NewSource(84))
	bytes := rom(t, 3, 0, 3, ticking, handlers)
	c := made(t, bytes)
	frames(t, c, 1)
	state := c.State()
	taken := 0
	for range 300 {
		like := slices.Clone(state)
		for range 1 + r.Intn(3) {
			// most of them where the processor's and the ports' bytes are
			at := []int{r.Intn(40), 32790 + r.Intn(40), len(like) - 1 - r.Intn(8), r.Intn(len(like))}[r.Intn(4)]
			like[at] = byte(r.Intn(256))
		}
		was := c.State()
		if e := c.Load(like); e != api.OK {
			is(t, "N4: Load", e, api.ErrConsoleState)
			if !slices.Equal(c.State(), was) {
				t.Fatal("N4: Load, refused, changes something")
			}
			continue
		}
		taken++
		if f := frame(t, c, r.Intn(256)); f.Clocks < 70184 || f.Clocks > 70264 || f.Carry < 0 || f.Carry > 40 {
			t.Fatalf("N4: a frame of some console has %d clocks, carry %d", f.Clocks, f.Carry)
		}
	}
	if taken < 20 || taken > 280 {
		t.Errorf("N4: of 300 states %d were taken", taken)
	}
}

// TestN4Midst: a board's state in the midst of an instruction, or of a dispatch, is taken, too: the frame ends between two instructions.
func TestN4Midst(t *testing.T) {
	bytes := rom(t, 3, 0, 3, ticking, handlers)
	b := boardOf(t, bytes, nil)
	b.Run(500)
	midst := 0
	for range 60 {
		b.Cycle()
		if b.Boundary() {
			continue
		}
		midst++
		c := load(t, made(t, bytes), append([]byte{8}, b.State()...))
		twin := boardOf(t, bytes, nil)
		twin.Load(b.State())
		f := frame(t, c, 0)
		if f.Clocks != 70216+f.Carry || f.Carry > 40 {
			t.Errorf("N4: from the midst of an instruction: %d clocks, carry %d", f.Clocks, f.Carry)
		}
		twin.Run(f.Clocks / api.CycleClocks)
		if !twin.Boundary() || !slices.Equal(c.State()[1:], twin.State()) {
			t.Error("N4: from the midst of an instruction a console goes on otherwise than a board")
		}
	}
	if midst < 20 {
		t.Errorf("N4: only %d states were told in the midst of an instruction", midst)
	}
}
