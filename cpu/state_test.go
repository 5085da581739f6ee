package cpu_test

import (
	"math/rand"
	"slices"
	"testing"

	"arcade/api"
	"arcade/cpu"
)

// someStates are states of processors in the midst of all kinds of instructions, of dispatches, of halts.
func someStates(t *testing.T) [][]byte {
	t.Helper()
	r := rand.New(rand.NewSource(9))
	var all [][]byte
	for code := range 512 {
		m := newMachine(0x200, byte(code), byte(r.Intn(256)), byte(r.Intn(256)))
		if code >= 256 {
			m.put(0x200, 203, byte(code))
		}
		regs := anyRegs(r)
		regs.PC = 0x200
		m.set(t, regs)
		for _, lines := range anyLines(r, 8) {
			all = append(all, m.State())
			m.cycle(lines)
		}
	}
	for _, code := range [][]byte{{251, 62, 5}, {118, 205, 5}, {118, 203, 6}, {251, 118}, {251, 203, 254}, {251, 211}} {
		for _, lines := range []int{0, 1, 20} {
			m := newMachine(256, code...)
			for range 14 {
				all = append(all, m.State())
				m.cycle(lines)
			}
		}
	}
	return all
}

// same tells whether two processors tell the same.
func same(a, b *cpu.CPU) bool {
	return a.Regs() == b.Regs() && a.Want() == b.Want() && a.Boundary() == b.Boundary() && string(a.State()) == string(b.State())
}

// TestC9Runs: a run in which each cycle is done by another processor, which was given the state of the last one, is the same run.
func TestC9Runs(t *testing.T) {
	r := rand.New(rand.NewSource(10))
	for range 60 {
		mem := anyMemory(r)
		for range 9000 {
			mem[r.Intn(65536)] = []byte{251, 118, 16, 217, 243}[r.Intn(5)]
		}
		regs := anyRegs(r)
		whole, cut := &machine{CPU: cpu.New(), mem: *mem}, &machine{CPU: cpu.New(), mem: *mem}
		whole.set(t, regs)
		cut.set(t, regs)
		for i, lines := range anyLines(r, 500) {
			state := cut.State()
			other := cpu.New()
			if i%2 == 0 { // one that is in the midst of something
				other.Tick(205, 0)
			}
			if e := other.Load(state); e != api.OK || len(state) > 64 {
				t.Fatalf("C9: Load behind %d cycles = %d (%d bytes)", i, e, len(state))
			}
			clear(state)
			cut.CPU = other
			if !same(whole.CPU, cut.CPU) {
				t.Fatalf("C9: behind %d cycles: %+v, %+v", i, whole.Regs(), cut.Regs())
			}
			w, a := whole.cycle(lines)
			if v, b := cut.cycle(lines); v != w || b != a {
				t.Fatalf("C9: cycle %d: %+v, %d, want %+v, %d", i, v, b, w, a)
			}
		}
	}
}

// TestC9Alike: two that were made alike, and used alike, tell the same bytes, which are new memory each time.
func TestC9Alike(t *testing.T) {
	a, b := newMachine(256, 205, 0, 2), newMachine(256, 205, 0, 2)
	for i := range 30 {
		s := a.State()
		if string(s) != string(b.State()) || string(s) != string(a.State()) {
			t.Fatalf("C9: behind %d cycles", i)
		}
		spoilt := a.State()
		for k := range spoilt[:cap(spoilt)] {
			spoilt[:cap(spoilt)][k] ^= 0xff
		}
		if string(a.State()) != string(s) {
			t.Fatalf("C9: behind %d cycles: the state is not new memory", i)
		}
		a.cycle(i & 3)
		b.cycle(i & 3)
	}
}

// TestC9Told: the state tells all that is told apart: from each of two states that differ the run goes on in another way, or the registers differ.
func TestC9Told(t *testing.T) {
	for _, pair := range [][2][]byte{{{251}, {0}}, {{118}, {0}}} { // EI, and a HALT that is not one, against NOP
		a, b := newMachine(256, append(pair[0], 62, 5, 0)...), newMachine(256, append(pair[1], 62, 5, 0)...)
		a.cycle(1)
		b.cycle(1)
		if a.Regs() != b.Regs() || string(a.State()) == string(b.State()) {
			t.Errorf("C9: %v: %+v, %+v", pair, a.Regs(), b.Regs())
		}
	}
}

// refused holds that Load refuses bytes, and changes nothing.
func refused(t *testing.T, what string, p *cpu.CPU, state []byte) {
	t.Helper()
	before := p.State()
	kept := slices.Clone(state)
	if e := p.Load(state); e != api.ErrCpuState {
		t.Fatalf("C9: Load of %s (% x) = %d", what, kept, e)
	}
	if string(p.State()) != string(before) || !slices.Equal(state, kept) {
		t.Fatalf("C9: Load of %s has changed something", what)
	}
}

func TestC9Cut(t *testing.T) {
	p := cpu.New()
	p.Tick(205, 0)
	for _, state := range someStates(t) {
		for many := range len(state) {
			refused(t, "a state that is cut", p, state[:many])
		}
		refused(t, "a state that begins late", p, state[1:])
		refused(t, "a state that is too long", p, append(slices.Clone(state), 0))
		refused(t, "a state that is twice there", p, append(slices.Clone(state), state...))
		turned := slices.Clone(state)
		slices.Reverse(turned)
		refused(t, "a state from its end on", p, turned)
		for i := range turned {
			turned[i] = ^state[i]
		}
		refused(t, "a state of which all bits are turned", p, turned)
	}
	refused(t, "nil", p, nil)
	for many := range 300 {
		refused(t, "bytes 0", p, make([]byte, many))
		refused(t, "bytes 255", p, slices.Repeat([]byte{255}, many))
	}
}

// goesOn holds that a processor that Load has taken is one: within all bounds, and soon at a boundary.
func goesOn(t *testing.T, p *cpu.CPU, state []byte) {
	t.Helper()
	for i := range 12 {
		w := p.Want()
		if !within(p.Regs()) || w.Addr != w.Addr&65535 || w.Data != w.Data&255 || w.Kind != api.Write && w.Data != 0 || w.Kind == api.Idle && w.Addr != 0 {
			t.Fatalf("C9: behind Load of % x and %d cycles: %+v, %+v", state, i, p.Regs(), w)
		}
		if i > 0 && p.Boundary() {
			return
		}
		if taken := p.Tick(i, 0); taken&(taken-1) != 0 || taken > 16 {
			t.Fatalf("C9: behind Load of % x and %d cycles: taken %d", state, i, taken)
		}
	}
	t.Fatalf("C9: behind Load of % x: 12 cycles without a boundary", state)
}

// TestC9Turned: a state of which one byte is another one is refused, or it is the state of a processor.
func TestC9Turned(t *testing.T) {
	p := cpu.New()
	p.Tick(205, 0)
	before := string(p.State())
	taken, left := 0, 0
	for i, state := range someStates(t) {
		for place := range state {
			for _, by := range []byte{1, 2, 4, 8, 16, 32, 64, 128, byte(i), 255} {
				turned := slices.Clone(state)
				turned[place] ^= by
				switch e := p.Load(turned); e {
				case api.OK:
					taken++
					if string(p.State()) != string(turned) {
						t.Fatalf("C9: behind Load of % x: State = % x", turned, p.State())
					}
					goesOn(t, p, turned)
					p.Load([]byte(before))
				case api.ErrCpuState:
					left++
					if string(p.State()) != before {
						t.Fatalf("C9: Load of % x has changed something", turned)
					}
				default:
					t.Fatalf("C9: Load of % x = %d", turned, e)
				}
			}
		}
	}
	if taken == 0 || left == 0 {
		t.Errorf("C9: %d were taken, %d refused", taken, left)
	}
}

// TestC9Any: bytes of any kind that are as long as a state, and begin as one.
func TestC9Any(t *testing.T) {
	r := rand.New(rand.NewSource(11))
	p := cpu.New()
	state := p.State()
	for range 200000 {
		s := slices.Clone(state)
		for range 1 + r.Intn(12) {
			s[r.Intn(len(s))] = byte(r.Intn(256)) >> r.Intn(8)
		}
		if p.Load(s) == api.OK {
			if string(p.State()) != string(s) {
				t.Fatalf("C9: behind Load of % x: State = % x", s, p.State())
			}
			goesOn(t, p, s)
		}
	}
}

// unlike tells in which bits two states differ.
func unlike(a, b []byte) []byte {
	bits := slices.Clone(a)
	for i := range bits {
		bits[i] ^= b[i]
	}
	return bits
}

// TestC9Never: what no processor ever is: something is due, or read twice, while interrupts are let, at rest, in a dispatch, or both are so; a dispatch while interrupts are not let; a rest in the midst of something.
func TestC9Never(t *testing.T) {
	regs := api.Regs{A: 1, SP: 0xd000, PC: 257}
	at := func(r api.Regs, code byte, cycles int) []byte {
		m := newMachine(256, code)
		m.set(t, r)
		for range cycles {
			m.cycle(1)
		}
		return m.State()
	}
	begin := regs
	begin.PC = 256
	plain, lets := at(regs, 0, 0), regs
	lets.IME = true
	ime := unlike(at(lets, 0, 0), plain)
	due := unlike(at(begin, 251, 1), plain)
	twice := unlike(at(begin, 118, 1), plain)
	midst := at(begin, 62, 1)
	lets.PC = 256
	dispatch := at(lets, 0, 3)
	p := cpu.New()
	for _, bits := range [][]byte{ime, due, twice} {
		if e := p.Load(unlike(plain, bits)); e != api.OK {
			t.Errorf("C9: Load = %d", e)
		}
	}
	for _, bits := range [][]byte{due, twice} {
		refused(t, "one that is due while let", p, unlike(unlike(plain, bits), ime))
		refused(t, "one that is due in a dispatch", p, unlike(dispatch, bits))
		refused(t, "one that is due in a dispatch while not let", p, unlike(unlike(dispatch, bits), ime))
		refused(t, "one that is due in the midst while let", p, unlike(unlike(midst, bits), ime))
	}
	refused(t, "EI and twice", p, unlike(unlike(plain, due), twice))
	refused(t, "a dispatch while not let", p, unlike(dispatch, ime))
	for _, state := range []int{api.Halted, api.Stopped, api.Locked} {
		rests := regs
		rests.State = state
		rest := unlike(at(rests, 0, 0), plain)
		refused(t, "EI at rest", p, unlike(unlike(plain, due), rest))
		refused(t, "twice at rest", p, unlike(unlike(plain, twice), rest))
		refused(t, "a rest in the midst", p, unlike(midst, rest))
		refused(t, "a rest in a dispatch", p, unlike(dispatch, rest))
	}
}
