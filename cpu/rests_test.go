package cpu_test

import (
	"testing"

	"arcade/api"
)

func TestC6Halt(t *testing.T) {
	m := newMachine(256, 118)
	m.wantsAre(t, "C6: HALT", 0, read(256))
	want := startRegs
	want.PC, want.State = 257, api.Halted
	for range 5 {
		m.regsAre(t, "C6: HALT", want)
		m.boundaryIs(t, "C6: HALT", true)
		m.wantsAre(t, "C6: HALT", 0, idle)
	}
	m.wantsAre(t, "C6: its last cycle", 16, idle)
	want.State = api.Running
	m.regsAre(t, "C6: behind it", want)
	m.boundaryIs(t, "C6: behind it", true)
	m.wantsAre(t, "C6: the byte behind it is read once", 16, read(257), read(258))
}

// TestC6Lines: only what the lines are at the end of the cycle itself counts.
func TestC6Lines(t *testing.T) {
	m := newMachine(256, 0, 118)
	m.wantsAre(t, "C6: NOP with lines", 31, read(256))
	m.wantsAre(t, "C6: HALT without", 0, read(257), idle, idle)
	m = newMachine(256, 16, 0)
	m.wantsAre(t, "C6: STOP's first cycle with lines", 31, read(256))
	m.wantsAre(t, "C6: STOP's second one without", 0, read(257), idle, idle)
	m = newMachine(256, 16, 0)
	m.wantsAre(t, "C6: STOP's first cycle without lines", 0, read(256))
	m.wantsAre(t, "C6: STOP's second one with some", 1, read(257), read(258))
}

func TestC6Stop(t *testing.T) {
	m := newMachine(256, 16, 118)
	m.wantsAre(t, "C6: STOP", 0, read(256), read(257), idle, idle)
	want := startRegs
	want.PC, want.State = 258, api.Stopped
	m.regsAre(t, "C6: STOP", want)
	m.boundaryIs(t, "C6: STOP", true)
	m.wantsAre(t, "C6: its last cycle", 1, idle)
	want.State = api.Running
	m.regsAre(t, "C6: behind it", want)
	m.wantsAre(t, "C6: behind it", 1, read(258), read(259))
	// with a line it goes on at once, and no byte is read twice
	m = newMachine(256, 16, 118, 62, 5)
	m.wantsAre(t, "C6: STOP with a line", 1, read(256), read(257), read(258), read(259), read(260))
	if a := m.Regs().A; a != 5 {
		t.Errorf("C6: A is %d", a)
	}
	// and with interrupts let, a dispatch
	m = newMachine(256, 16, 0)
	m.set(t, api.Regs{SP: 0xd000, PC: 256, IME: true})
	m.wantsAre(t, "C6: STOP", 0, read(256))
	m.wantsAre(t, "C6: STOP with a line", 1, read(257), idle, idle, write(0xcfff, 1), write(0xcffe, 2))
}

// TestC6Twice: HALT with a line while interrupts are not let: the byte behind it is read twice.
func TestC6Twice(t *testing.T) {
	for _, k := range []struct {
		what  string
		code  []byte
		wants []api.Want
		pc    int
	}{
		{"NOP", []byte{0}, wants(read(0x201), read(0x201), read(0x202)), 0x203},
		{"INC B", []byte{4}, wants(read(0x201)), 0x201},
		{"LD A,n", []byte{62, 5}, wants(read(0x201), read(0x201)), 0x202},
		{"LD BC,nn", []byte{1, 7}, wants(read(0x201), read(0x201), read(0x202)), 0x203},
		{"JR e", []byte{24, 8}, wants(read(0x201), read(0x201), idle), 0x202 + 24},
		{"JR NZ,e", []byte{40, 8}, wants(read(0x201), read(0x201)), 0x202},
		{"JP nn", []byte{195, 8}, wants(read(0x201), read(0x201), read(0x202), idle), 0x8c3},
		{"CALL nn", []byte{205, 8}, wants(read(0x201), read(0x201), read(0x202), idle, write(0xcfff, 2), write(0xcffe, 3)), 0x8cd},
		{"RST 40", []byte{239}, wants(read(0x201), idle, write(0xcfff, 2), write(0xcffe, 1)), 40},
		{"CB", []byte{203, 8}, wants(read(0x201), read(0x201)), 0x202},
		{"LD (HL),n", []byte{54, 8}, wants(read(0x201), read(0x201), write(0, 54)), 0x202},
		{"one that is none", []byte{219}, wants(read(0x201), idle, idle), 0x201},
	} {
		m := newMachine(0x200, append([]byte{118}, k.code...)...)
		m.set(t, api.Regs{SP: 0xd000, PC: 0x200})
		m.wantsAre(t, "C6: HALT", 4, read(0x200))
		m.regsAre(t, "C6: HALT with a line", api.Regs{SP: 0xd000, PC: 0x201})
		m.boundaryIs(t, "C6: HALT with a line", true)
		m.wantsAre(t, "C6: "+k.what+" behind HALT", 4, k.wants...)
		if pc := m.Regs().PC; pc != k.pc || !m.Boundary() {
			t.Errorf("C6: %s behind HALT: PC %#x, want %#x", k.what, pc, k.pc)
		}
	}
}

// TestC6TwiceAgain: HALT behind HALT stays there while there are lines, and halts when there are none.
func TestC6TwiceAgain(t *testing.T) {
	m := newMachine(256, 118, 118, 60)
	m.wantsAre(t, "C6: HALT, HALT", 1, read(256), read(257), read(257), read(257))
	m.wantsAre(t, "C6: HALT, HALT", 0, read(257), idle)
	want := startRegs
	want.PC, want.State = 257, api.Halted
	m.regsAre(t, "C6: HALT, HALT", want)
	m.wantsAre(t, "C6: HALT, HALT", 1, idle)
	m.wantsAre(t, "C6: HALT, HALT", 0, read(257), idle)
	want.PC = 258
	m.regsAre(t, "C6: HALT, HALT", want)
}

// TestC6TwiceRound: also at the end of all addresses.
func TestC6TwiceRound(t *testing.T) {
	m := newMachine(65535, 118, 62, 5)
	m.set(t, api.Regs{PC: 65535})
	m.wantsAre(t, "C6: HALT at the end", 1, read(65535), read(0), read(0), read(1))
	m = newMachine(65534, 118, 62, 5)
	m.set(t, api.Regs{PC: 65534})
	m.wantsAre(t, "C6: HALT ahead of it", 1, read(65534), read(65535), read(65535), read(0))
}

// TestC6Let: HALT with a line while interrupts are let: a dispatch at once, behind the HALT.
func TestC6Let(t *testing.T) {
	m := newMachine(256, 118)
	m.set(t, api.Regs{SP: 0xd000, PC: 256, IME: true})
	m.wantsAre(t, "C6: HALT with IME", 1, read(256))
	m.regsAre(t, "C6: HALT with IME", api.Regs{SP: 0xd000, PC: 257, IME: true})
	m.wantsAre(t, "C6: HALT with IME", 1, idle, idle, write(0xcfff, 1), write(0xcffe, 1))
	m = newMachine(256, 251, 118, 60)
	m.wantsAre(t, "C6: EI, HALT with a line", 1, read(256), read(257), idle, idle, write(65533, 1), write(65532, 2))
}

func TestC6Locked(t *testing.T) {
	m := newMachine(256, 221)
	m.cycle(0)
	state := string(m.State())
	for i := range 100 {
		m.wantsAre(t, "C6: locked", i, idle)
		m.boundaryIs(t, "C6: locked", true)
	}
	if string(m.State()) != state {
		t.Error("C6: a locked processor changes")
	}
}
