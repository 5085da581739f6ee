package cpu_test

import (
	"math"
	"testing"

	"arcade/api"
	"arcade/cpu"
)

func TestC1New(t *testing.T) {
	m := newMachine(256)
	m.regsAre(t, "C1: New", startRegs)
	m.boundaryIs(t, "C1: New", true)
	m.wantsAre(t, "C1: New", 31, read(256), read(257))
	if m.Regs().IME {
		t.Error("C1: interrupts are let")
	}
	if other := cpu.New(); other.Regs() != startRegs {
		t.Errorf("C1: a second one: %+v", other.Regs())
	}
}

func TestC2RegsInTheMidst(t *testing.T) {
	m := newMachine(0x200, 0xcd, 0x00, 0x03) // CALL
	began := api.Regs{A: 1, F: 16, SP: 0xd000, PC: 0x200}
	m.set(t, began)
	for i := range 5 {
		m.cycle(0)
		m.regsAre(t, "C2: in a CALL", began)
		m.boundaryIs(t, "C2: in a CALL", false)
		if e := m.Set(startRegs); e != api.ErrCpuBusy {
			t.Errorf("C2: Set behind %d cycles = %d", i+1, e)
		}
	}
	m.cycle(0)
	m.regsAre(t, "C2: behind a CALL", api.Regs{A: 1, F: 16, SP: 0xcffe, PC: 0x300})
	m.boundaryIs(t, "C2: behind a CALL", true)
}

func TestC2RegsInADispatch(t *testing.T) {
	m := newMachine(0x200, 118) // HALT
	m.set(t, api.Regs{SP: 0xd000, PC: 0x200, IME: true})
	m.cycle(0)
	m.cycle(0)
	m.regsAre(t, "C2: halted", api.Regs{SP: 0xd000, PC: 0x201, IME: true, State: api.Halted})
	m.cycle(2)
	for range 5 {
		m.regsAre(t, "C2: in a dispatch", api.Regs{SP: 0xd000, PC: 0x201, IME: true})
		m.boundaryIs(t, "C2: in a dispatch", false)
		if e := m.Set(startRegs); e != api.ErrCpuBusy {
			t.Errorf("C2: Set in a dispatch = %d", e)
		}
		m.cycle(2)
	}
	m.regsAre(t, "C2: behind a dispatch", api.Regs{SP: 0xcffe, PC: 72})
}

// TestC2Busy: in the midst of an instruction wrong registers are refused for that.
func TestC2Busy(t *testing.T) {
	m := newMachine(256, 62)
	m.cycle(0)
	if e := m.Set(api.Regs{A: -1, State: 9}); e != api.ErrCpuBusy {
		t.Errorf("C2: Set = %d", e)
	}
}

func TestC2Bounds(t *testing.T) {
	far := []int{-1, -128, -256, 1 << 16, 1<<16 + 1, 1 << 32, 1<<32 + 16, math.MaxInt, math.MinInt}
	m := newMachine(256)
	m.set(t, api.Regs{A: 9, PC: 7, IME: true})
	before := m.State()
	try := func(what string, r api.Regs) {
		t.Helper()
		if e := m.Set(r); e != api.ErrCpuRegs || string(m.State()) != string(before) {
			t.Errorf("C2: Set of %s = %d, %+v", what, e, m.Regs())
		}
	}
	bytes := map[string]func(*api.Regs) *int{
		"A": func(r *api.Regs) *int { return &r.A }, "F": func(r *api.Regs) *int { return &r.F },
		"B": func(r *api.Regs) *int { return &r.B }, "C": func(r *api.Regs) *int { return &r.C },
		"D": func(r *api.Regs) *int { return &r.D }, "E": func(r *api.Regs) *int { return &r.E },
		"H": func(r *api.Regs) *int { return &r.H }, "L": func(r *api.Regs) *int { return &r.L },
	}
	words := map[string]func(*api.Regs) *int{
		"SP": func(r *api.Regs) *int { return &r.SP }, "PC": func(r *api.Regs) *int { return &r.PC },
	}
	for name, of := range bytes {
		for _, v := range append([]int{256, 257, 65535}, far...) {
			var r api.Regs
			*of(&r) = v
			try(name, r)
		}
	}
	for name, of := range words {
		for _, v := range far {
			var r api.Regs
			*of(&r) = v
			try(name, r)
		}
	}
	for _, v := range append([]int{4, 5, 256}, far...) {
		try("State", api.Regs{State: v})
	}
	for low := 1; low < 16; low++ {
		try("F", api.Regs{F: 0xf0 + low})
	}
}

func TestC2AllThatMayBe(t *testing.T) {
	m := newMachine(256)
	for state := range 4 {
		for _, ime := range []bool{false, true} {
			for _, r := range []api.Regs{{}, {A: 255, F: 240, B: 255, C: 255, D: 255, E: 255, H: 255, L: 255, SP: 65535, PC: 65535}, {A: 1, F: 16, B: 2, C: 3, D: 4, E: 5, H: 6, L: 7, SP: 8, PC: 9}} {
				r.State, r.IME = state, ime
				m.set(t, r)
				m.regsAre(t, "C2: behind Set", r)
				m.boundaryIs(t, "C2: behind Set", true)
				want := idle
				if state == api.Running {
					want = read(r.PC)
				}
				if got := m.Want(); got != want {
					t.Errorf("C2: behind Set(%+v): Want = %+v", r, got)
				}
			}
		}
	}
}

// TestC2Due: what was due, and a byte that was to be read twice, are no more behind Set.
func TestC2Due(t *testing.T) {
	m := newMachine(256, 251, 0, 0)
	m.wantsAre(t, "C2: EI", 0, read(256))
	m.set(t, m.Regs())
	m.wantsAre(t, "C2: Set behind EI", 1, read(257), read(258), read(259))
	m = newMachine(256, 118, 62, 5)
	m.wantsAre(t, "C2: HALT", 1, read(256))
	m.set(t, m.Regs())
	m.wantsAre(t, "C2: Set behind HALT", 1, read(257), read(258), read(259))
	if a := m.Regs().A; a != 5 {
		t.Errorf("C2: A is %d", a)
	}
}

// TestC2Rests: a processor that was set to rest does so, and wakes as any other one.
func TestC2Rests(t *testing.T) {
	for _, state := range []int{api.Halted, api.Stopped} {
		m := newMachine(0)
		m.set(t, api.Regs{PC: 0x300, SP: 0xd000, State: state})
		m.wantsAre(t, "C2: at rest", 0, idle, idle)
		m.wantsAre(t, "C2: at rest", 4, idle, read(0x300), read(0x301))
		m.set(t, api.Regs{PC: 0x300, SP: 0xd000, State: state, IME: true})
		m.wantsAre(t, "C2: at rest", 4, idle, idle, idle, write(0xcfff, 3), write(0xcffe, 0))
	}
	m := newMachine(0)
	m.set(t, api.Regs{PC: 0x300, State: api.Locked, IME: true})
	m.wantsAre(t, "C2: locked", 31, idle, idle, idle)
	m.set(t, api.Regs{PC: 0x300})
	m.wantsAre(t, "C2: no longer locked", 31, read(0x300))
}
