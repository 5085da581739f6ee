package ports_test

import (
	"math"
	"slices"
	"testing"

	"arcade/api"
	"arcade/ports"
)

// outside are numbers below 0 and above a bound, close by and far.
func outside(most int) []int {
	near := []int{-1, -2, most + 1, most + 2, 2*most + 1}
	for _, n := range far {
		if n < 0 || n > most {
			near = append(near, n)
		}
	}
	return near
}

// busy are ports in the midst of all, that have sent something.
func busy(t *testing.T) *ports.Ports {
	t.Helper()
	p := ports.New()
	write(t, p, buttons, 16, shift, 65, line, 129)
	step(t, p, 4096)
	write(t, p, shift, 66, line, 129, divider, 0, timer, 255, again, 9, control, 5)
	press(t, p, 0x2c)
	step(t, p, 17)
	return p
}

// TestP51Refused: each number out of its bounds is refused, with nothing else told and nothing changed.
func TestP51Refused(t *testing.T) {
	p, q := busy(t), busy(t)
	refused := func(what string, n int, e, want api.Errno) {
		t.Helper()
		if e != want || !same(p, q) {
			t.Errorf("P5.1: %s of %d: %d, want %d; %v, want %v", what, n, e, want, p.State(), q.State())
		}
	}
	for _, n := range outside(1000000) {
		refused("Step", n, p.Step(n), api.ErrArg)
	}
	for _, n := range outside(255) {
		refused("Press", n, p.Press(n), api.ErrArg)
		for _, address := range all {
			refused("Write", n, p.Write(address, n), api.ErrArg)
		}
	}
	for _, n := range outside(4) {
		refused("Raise", n, p.Raise(n), api.ErrArg)
		refused("Take", n, p.Take(n), api.ErrArg)
	}
	step(t, p, 5000)
	step(t, q, 5000)
	refused("all that was refused", 0, api.OK, api.OK)
}

// TestP51NoPort: each address that is none; that comes ahead of a value that may not be.
func TestP51NoPort(t *testing.T) {
	p, q := busy(t), busy(t)
	none := func(address int) {
		t.Helper()
		if v, e := p.Read(address); v != 0 || e != api.ErrPortAddress {
			t.Errorf("P5.1: Read(%d) = %d, %d, want 0, %d", address, v, e, api.ErrPortAddress)
		}
		for _, v := range []int{0, 129, 255, 256, -1, math.MinInt, math.MaxInt} {
			if e := p.Write(address, v); e != api.ErrPortAddress {
				t.Errorf("P5.1: Write(%d, %d) = %d, want %d", address, v, e, api.ErrPortAddress)
			}
		}
	}
	for address := -70000; address < 140000; address++ {
		if !slices.Contains(all, address) {
			none(address)
		}
	}
	for _, address := range far {
		none(address)
	}
	if !same(p, q) {
		t.Errorf("P5.1: changed by what is no port: %v, want %v", p.State(), q.State())
	}
}

// TestP51Bounds: the least and the most of each number are taken.
func TestP51Bounds(t *testing.T) {
	p := ports.New()
	for what, e := range map[string]api.Errno{"Step(0)": p.Step(0), "Step(1000000)": p.Step(1000000), "Press(255)": p.Press(255), "Press(0)": p.Press(0), "Raise(0)": p.Raise(0), "Raise(4)": p.Raise(4), "Take(0)": p.Take(0), "Take(4)": p.Take(4)} {
		if e != api.OK {
			t.Errorf("P5.1: %s = %d", what, e)
		}
	}
	for _, address := range all {
		for _, v := range []int{0, 255} {
			if e := p.Write(address, v); e != api.OK {
				t.Errorf("P5.1: Write(%x, %d) = %d", address, v, e)
			}
		}
	}
}

// TestP51Out: lists that come out are new memory, their spare room too.
func TestP51Out(t *testing.T) {
	p, q := busy(t), busy(t)
	for range 3 {
		for _, list := range [][]byte{p.State(), p.Sent(), p.State(), p.Sent()} {
			scratch(list)
		}
		if !same(p, q) {
			t.Fatalf("P5.1: written into what came out: %v, %v, want %v, %v", p.State(), p.Sent(), q.State(), q.Sent())
		}
		write(t, p, line, 129)
		write(t, q, line, 129)
		step(t, p, 4096)
		step(t, q, 4096)
	}
	sent, state := p.Sent(), p.State()
	one, two := slices.Clone(sent), slices.Clone(state)
	scratch(p.Sent())
	scratch(p.State())
	write(t, p, line, 129, timer, 3)
	step(t, p, 4096)
	if !slices.Equal(sent, one) || !slices.Equal(state, two) {
		t.Errorf("P5.1: lists that came out change later: %v, %v, want %v, %v", sent, state, one, two)
	}
}

// TestP51SentFull: what Sent told stays when bytes fall out at the other end.
func TestP51SentFull(t *testing.T) {
	p := ports.New()
	for i := range 256 {
		write(t, p, shift, i, line, 129)
		step(t, p, 4096)
	}
	told := p.Sent()
	was := slices.Clone(told)
	for range 20 {
		write(t, p, shift, 99, line, 129)
		step(t, p, 4096)
	}
	if len(was) != 256 || !slices.Equal(told, was) {
		t.Errorf("P5.1: what Sent told has changed: %v", told)
	}
	scratch(told)
	if got := p.Sent(); got[0] != 20 || got[255] != 99 {
		t.Errorf("P5.1: written into what Sent told: %v", got)
	}
}

// TestP51In: a state that is handed in is not written into, nor kept, taken or refused.
func TestP51In(t *testing.T) {
	good := busy(t).State()
	for _, state := range [][]byte{good, good[:18], append(slices.Clone(good), 0), changed(good, atRows, 1), changed(good, atLast, 1), {}} {
		p, q := ports.New(), ports.New()
		list := roomy(state)
		if e := p.Load(list); e != q.Load(slices.Clone(state)) {
			t.Errorf("P5.1: Load(%v) hangs on what lies behind: %d", state, e)
		}
		step(t, p, 30)
		write(t, p, timer, 5)
		if !spared(list, state) {
			t.Errorf("P5.1: Load(%v) wrote into it: %v", state, list)
		}
		scratch(list)
		step(t, q, 30)
		write(t, q, timer, 5)
		if !same(p, q) {
			t.Errorf("P5.1: Load(%v) kept it: %v, want %v", state, p.State(), q.State())
		}
	}
}

// TestP51Apart: ports have nothing to do with one another.
func TestP51Apart(t *testing.T) {
	p, q := ports.New(), ports.New()
	fresh := seen(q)
	write(t, p, buttons, 0, shift, 5, line, 129, timer, 255, again, 7, control, 5, requests, 31)
	press(t, p, 255)
	step(t, p, 5000)
	if !slices.Equal(seen(q), fresh) || len(q.Sent()) != 0 || !slices.Equal(seen(ports.New()), fresh) {
		t.Errorf("P5.1: ports change others: %v, %v", seen(q), q.Sent())
	}
	was, sent := seen(p), p.Sent()
	if e := q.Load(p.State()); e != api.OK {
		t.Fatalf("P5.1: Load = %d", e)
	}
	write(t, q, line, 129, timer, 1)
	step(t, q, 9000)
	if !slices.Equal(seen(p), was) || !slices.Equal(p.Sent(), sent) {
		t.Errorf("P5.1: ports change those whose state they have: %v, want %v", seen(p), was)
	}
}

// TestP51Asked: to ask changes nothing.
func TestP51Asked(t *testing.T) {
	for i, state := range states(t) {
		p, q := loaded(t, state), loaded(t, state)
		for clocks := range 40 {
			for _, address := range all {
				p.Read(address)
			}
			p.Read(buttons + 3)
			p.Requests()
			p.Sent()
			p.State()
			step(t, p, 0, clocks, 0)
			step(t, q, clocks)
		}
		if !same(p, q) {
			t.Errorf("P5.1: state %d: changed by questions: %v, want %v", i, p.State(), q.State())
		}
	}
}
