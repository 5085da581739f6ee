package cpu_test

import (
	"testing"

	"arcade/api"
)

// let is a machine with interrupts let, SP $d000, at $1fe: behind two bytes PC's higher byte is another one.
func let(t *testing.T, code ...byte) *machine {
	t.Helper()
	m := newMachine(0x1fe, code...)
	m.set(t, api.Regs{A: 3, SP: 0xd000, PC: 0x1fe, IME: true})
	return m
}

func (m *machine) takes(t *testing.T, what string, lines, want int) {
	t.Helper()
	if w, taken := m.cycle(lines); w != idle || taken != want {
		t.Errorf("%s: the fifth cycle: %+v, taken %d, want %d", what, w, taken, want)
	}
}

// TestC7Which: the least bit is taken, and leads to its own handler.
func TestC7Which(t *testing.T) {
	for lines := 1; lines < 32; lines++ {
		bit, place := 1, 64
		for lines&bit == 0 {
			bit, place = bit*2, place+8
		}
		m := let(t, 0)
		m.wantsAre(t, "C7: a dispatch", lines, read(0x1fe), idle, idle, write(0xcfff, 1), write(0xcffe, 0xff))
		m.takes(t, "C7", lines, bit)
		m.regsAre(t, "C7: behind it", api.Regs{A: 3, SP: 0xcffe, PC: place})
		m.boundaryIs(t, "C7: behind it", true)
		m.wantsAre(t, "C7: an instruction follows", lines, read(place), read(place+1))
	}
}

// TestC7When: the lines at the end of the fourth cycle say which one it is; those ahead and behind do not count.
func TestC7When(t *testing.T) {
	for lines := range 32 {
		for at := range 6 {
			m := let(t, 0)
			taken, fourth := 0, 0
			for i := range 6 {
				now := 16
				if i == at {
					now = lines
				}
				if i == 4 { // behind the NOP's own cycle
					fourth = now
				}
				if i == 0 {
					now |= 16
				}
				_, taken = m.cycle(now)
			}
			if want := fourth & -fourth; taken != want {
				t.Errorf("C7: lines %d in cycle %d: taken %d, want %d", lines, at, taken, want)
			}
		}
	}
}

// TestC7Gone: without a line at the end of the fourth cycle nothing is taken, and PC is 0.
func TestC7Gone(t *testing.T) {
	m := let(t, 0)
	m.wantsAre(t, "C7: a dispatch", 8, read(0x1fe), idle, idle, write(0xcfff, 1))
	m.wantsAre(t, "C7: the line goes", 0, write(0xcffe, 0xff))
	m.takes(t, "C7: it comes again", 8, 0)
	m.regsAre(t, "C7: gone", api.Regs{A: 3, SP: 0xcffe})
	m.wantsAre(t, "C7: gone", 31, read(0), read(1))
	m = let(t, 0)
	m.wantsAre(t, "C7: lines that go at once", 8, read(0x1fe))
	m.wantsAre(t, "C7: lines that go at once", 0, idle, idle, write(0xcfff, 1))
	m.wantsAre(t, "C7: and come", 4, write(0xcffe, 0xff))
	m.takes(t, "C7: and go", 0, 4)
	m.regsAre(t, "C7: behind it", api.Regs{A: 3, SP: 0xcffe, PC: 80})
}

// TestC7Midst: lines in the midst of an instruction do not count, those at its end do.
func TestC7Midst(t *testing.T) {
	m := let(t, 0xea, 0, 0xc0) // LD (nn),A
	m.wantsAre(t, "C7: lines in the midst", 31, read(0x1fe), read(0x1ff), read(0x200))
	m.wantsAre(t, "C7: none at the end", 0, write(0xc000, 3))
	m.wantsAre(t, "C7: so none", 0, read(0x201))
	m = let(t, 0xea, 0, 0xc0)
	m.wantsAre(t, "C7: none in the midst", 0, read(0x1fe), read(0x1ff), read(0x200))
	m.wantsAre(t, "C7: one at the end", 1, write(0xc000, 3))
	m.wantsAre(t, "C7: so one", 1, idle, idle, write(0xcfff, 2), write(0xcffe, 1))
}

func TestC7NotLet(t *testing.T) {
	m := newMachine(256, 0, 62, 5, 203, 0, 24, 254)
	m.wantsAre(t, "C7: not let", 31, read(256), read(257), read(258), read(259), read(260), read(261), read(262), idle, read(261))
}

// TestC7Pushed: what is pushed is where it goes on, behind a jump too; the stack goes round.
func TestC7Pushed(t *testing.T) {
	m := let(t, 0xc3, 0x34, 0x12)
	m.wantsAre(t, "C7: behind a jump", 1, read(0x1fe), read(0x1ff), read(0x200), idle, idle, idle, write(0xcfff, 0x12), write(0xcffe, 0x34))
	m = newMachine(65535, 0)
	m.set(t, api.Regs{SP: 1, PC: 65535, IME: true})
	m.wantsAre(t, "C7: round", 1, read(65535), idle, idle, write(0, 0), write(65535, 0))
	m.takes(t, "C7: round", 1, 1)
	m.regsAre(t, "C7: round", api.Regs{SP: 65535, PC: 64})
}

// TestC7Rest: a halt or a stop that lines end leads to a dispatch, if interrupts are let.
func TestC7Rest(t *testing.T) {
	for _, state := range []int{api.Halted, api.Stopped} {
		m := newMachine(0)
		m.set(t, api.Regs{SP: 0xd000, PC: 0x345, IME: true, State: state})
		m.wantsAre(t, "C7: at rest", 0, idle, idle)
		m.wantsAre(t, "C7: its end", 2, idle, idle, idle, write(0xcfff, 3), write(0xcffe, 0x45))
		m.takes(t, "C7: its end", 2, 2)
		m.regsAre(t, "C7: behind it", api.Regs{SP: 0xcffe, PC: 72})
		m.set(t, api.Regs{SP: 0xd000, PC: 0x345, State: state})
		m.wantsAre(t, "C7: not let", 2, idle, read(0x345))
	}
}

func TestC8EI(t *testing.T) {
	for _, k := range []struct {
		what string
		code []byte
		most int // lines are there in all cycles: as many reads are done ahead of a dispatch; 0: there is none
		ime  []bool
	}{
		{"EI, NOP", []byte{251, 0, 0}, 2, []bool{false, true}},
		{"EI, EI", []byte{251, 251, 0}, 2, []bool{false, true}},
		{"EI, DI", []byte{251, 243, 0, 0}, 0, []bool{false, false, false, false}},
		{"EI, DI, EI, NOP", []byte{251, 243, 251, 0, 0}, 4, []bool{false, false, false, true}},
		{"DI", []byte{243, 0, 0}, 0, []bool{false, false, false}},
		{"EI, LD A,n", []byte{251, 62, 251, 0}, 3, []bool{false, false, true}},
		{"EI, CB", []byte{251, 203, 0, 0}, 3, []bool{false, false, true}},
		{"EI, HALT", []byte{251, 118, 0, 0}, 2, []bool{false, true}},
		{"EI, STOP", []byte{251, 16, 0, 0}, 3, []bool{false, false, true}},
	} {
		m := newMachine(256, k.code...)
		for i, ime := range k.ime {
			m.wantsAre(t, "C8: "+k.what, 1, read(256+i))
			if m.Regs().IME != ime {
				t.Errorf("C8: %s: behind %d cycles IME is %v", k.what, i+1, !ime)
			}
		}
		if k.most > 0 {
			m.wantsAre(t, "C8: "+k.what, 1, idle, idle, write(65533, 1), write(65532, k.most))
		}
	}
}

// TestC8Once: when interrupts have become let by an EI, none is due any more: a DI holds, also behind a handler.
func TestC8Once(t *testing.T) {
	m := newMachine(256, 251, 251, 243, 0, 0)
	m.wantsAre(t, "C8: EI, EI, DI", 0, read(256), read(257), read(258))
	m.wantsAre(t, "C8: EI, EI, DI", 1, read(259), read(260), read(261))
	m = newMachine(256, 251, 251)
	m.wantsAre(t, "C8: EI, EI", 0, read(256))
	m.wantsAre(t, "C8: EI, EI", 1, read(257), idle, idle, write(65533, 1), write(65532, 2))
	m.takes(t, "C8: EI, EI", 1, 1)
	m.wantsAre(t, "C8: none is due in the handler", 1, read(64), read(65), read(66))
	if m.Regs().IME {
		t.Error("C8: let in the handler")
	}
}

// TestC8While: an EI while interrupts are let changes nothing.
func TestC8While(t *testing.T) {
	m := let(t, 251, 243, 0, 0)
	m.wantsAre(t, "C8: EI while let", 0, read(0x1fe))
	m.regsAre(t, "C8: EI while let", api.Regs{A: 3, SP: 0xd000, PC: 0x1ff, IME: true})
	plain := let(t, 0, 243)
	plain.cycle(0)
	if string(plain.State()) != string(m.State()) {
		t.Error("C8: an EI while let has changed something")
	}
	m.wantsAre(t, "C8: DI behind it", 1, read(0x1ff), read(0x200), read(0x201))
	m = let(t, 251)
	m.wantsAre(t, "C8: EI while let, with a line", 1, read(0x1fe), idle, idle, write(0xcfff, 1), write(0xcffe, 0xff))
	m.takes(t, "C8: EI while let, with a line", 1, 1)
	m.wantsAre(t, "C8: none is due in the handler", 1, read(64), read(65), read(66))
}

// TestC8DI: a DI with a line at its end: nothing is dispatched.
func TestC8DI(t *testing.T) {
	m := let(t, 243, 0)
	m.wantsAre(t, "C8: DI", 31, read(0x1fe), read(0x1ff), read(0x200))
	m.regsAre(t, "C8: DI", api.Regs{A: 3, SP: 0xd000, PC: 0x201})
}

func TestC8RETI(t *testing.T) {
	m := newMachine(256, 217)
	m.set(t, api.Regs{SP: 0xd000, PC: 256})
	m.put(0xd000, 0x34, 0x12)
	m.wantsAre(t, "C8: RETI", 1, read(256), read(0xd000), read(0xd001))
	m.regsAre(t, "C8: in RETI", api.Regs{SP: 0xd000, PC: 256})
	m.wantsAre(t, "C8: RETI", 1, idle)
	m.regsAre(t, "C8: behind RETI", api.Regs{SP: 0xd002, PC: 0x1234, IME: true})
	m.wantsAre(t, "C8: behind RETI", 1, idle, idle, write(0xd001, 0x12), write(0xd000, 0x34))
	m = newMachine(256, 201)
	m.set(t, api.Regs{SP: 0xd000, PC: 256})
	m.instruction(t, 1)
	m.regsAre(t, "C8: behind RET", api.Regs{SP: 0xd002})
	// an EI ahead of RETI is done with, too
	m = newMachine(256, 251, 217)
	m.put(65534, 0, 2)
	m.put(512, 243, 0, 0)
	m.wantsAre(t, "C8: EI, RETI, DI", 0, read(256), read(257), read(65534), read(65535), idle, read(512))
	m.wantsAre(t, "C8: EI, RETI, DI", 1, read(513), read(514), read(515))
}
