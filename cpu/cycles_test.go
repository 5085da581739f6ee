package cpu_test

import (
	"math"
	"testing"

	"arcade/api"
	"arcade/cpu"
)

// TestC3Want: it says the same however often it is asked, and asking changes nothing; nor do Regs, Boundary and State.
func TestC3Want(t *testing.T) {
	code := []byte{0x3e, 5, 0xcd, 0, 3, 0x36, 9, 0xcb, 0xc6, 0xe8, 1, 0x76}
	asked, plain := newMachine(256, code...), newMachine(256, code...)
	for i := range 40 {
		w := asked.Want()
		for range 3 {
			asked.Regs()
			asked.Boundary()
			asked.State()
			if again := asked.Want(); again != w {
				t.Fatalf("C3: cycle %d: Want = %+v, then %+v", i, w, again)
			}
		}
		asked.cycle(i & 2)
		plain.cycle(i & 2)
		if string(asked.State()) != string(plain.State()) {
			t.Fatalf("C3: behind cycle %d: to ask has changed something", i)
		}
	}
}

// TestC3Data: what was read is cut to a byte, and does not count where nothing was read.
func TestC3Data(t *testing.T) {
	for _, data := range []int{5, 256 + 5, -251, 1<<40 + 5, math.MinInt + 5} {
		p := cpu.New()
		p.Tick(data-5+62, 0)
		p.Tick(data, 0)
		if r := p.Regs(); r.A != 5 || r.PC != 258 {
			t.Errorf("C3: data %d: %+v", data, r)
		}
	}
	for _, data := range []int{0, 1, 255, -1, math.MaxInt} {
		m := newMachine(256, 0xc5) // PUSH BC
		m.cycle(0)
		for range 3 {
			m.Tick(data, 0)
		}
		want := startRegs
		want.SP, want.PC = 65532, 257
		m.regsAre(t, "C3: data where nothing was read", want)
	}
}

// TestC3Lines: lines are cut to five bits.
func TestC3Lines(t *testing.T) {
	for _, k := range []struct{ lines, want int }{{32, 0}, {-32, 0}, {1 << 20, 0}, {math.MinInt, 0}, {-1, 1}, {33, 1}, {48, 16}, {math.MaxInt, 1}, {-8, 8}, {20, 4}} {
		m := newMachine(256)
		m.set(t, api.Regs{PC: 256, SP: 0xd000, State: api.Halted, IME: true})
		m.cycle(k.lines)
		if woken := m.Regs().State == api.Running; woken != (k.want != 0) {
			t.Errorf("C3: lines %d: woken %v", k.lines, woken)
			continue
		}
		taken := 0
		for range 5 {
			_, bit := m.cycle(k.lines)
			taken |= bit
		}
		if taken != k.want {
			t.Errorf("C3: lines %d: taken %d, want %d", k.lines, taken, k.want)
		}
	}
}

func TestC3Boundary(t *testing.T) {
	m := newMachine(256, 0x00, 0x34, 0x76)
	wants := []bool{true, true, false, false, true, true, true, true}
	for i, want := range wants {
		if m.Boundary() != want {
			t.Errorf("C3: behind %d cycles: Boundary = %v", i, !want)
		}
		m.cycle(0)
	}
	m = newMachine(256, 0)
	m.set(t, api.Regs{PC: 256, SP: 0xd000, IME: true})
	for i, want := range []bool{true, false, false, false, false, false, true} {
		if m.Boundary() != want {
			t.Errorf("C3: in a dispatch: behind %d cycles: Boundary = %v", i, !want)
		}
		m.cycle(1)
	}
}

// cycleCase is an instruction: its bytes, its cycles behind the first one, and PC behind it.
type cycleCase struct {
	what  string
	code  []byte
	wants []api.Want
	pc    int
}

// base are the registers of the cases: all flags, HL $c010, SP $d000, from $200 on.
var base = api.Regs{A: 0x12, F: 0xf0, B: 0xc1, C: 0x20, D: 0xc2, E: 0x30, H: 0xc0, L: 0x10, SP: 0xd000, PC: 0x200}

func wants(all ...api.Want) []api.Want { return all }

func checkCycles(t *testing.T, regs api.Regs, cases []cycleCase) {
	t.Helper()
	for _, k := range cases {
		m := newMachine(regs.PC, k.code...)
		m.put(0xc010, 0x7f)
		m.put(0xd000, 0x34, 0x12)
		m.set(t, regs)
		all := append(wants(read(regs.PC)), k.wants...)
		for i, want := range all {
			got, taken := m.cycle(0)
			if got != want || taken != 0 || m.Boundary() != (i == len(all)-1) {
				t.Errorf("C4: %s: cycle %d: %+v, taken %d, boundary behind it %v, want %+v", k.what, i, got, taken, m.Boundary(), want)
				break
			}
		}
		if pc := m.Regs().PC; pc != k.pc {
			t.Errorf("C4: %s: PC %#x, want %#x", k.what, pc, k.pc)
		}
	}
}

func TestC4Loads(t *testing.T) {
	checkCycles(t, base, []cycleCase{
		{"NOP", []byte{0x00}, nil, 0x201},
		{"LD B,C", []byte{0x41}, nil, 0x201},
		{"LD B,n", []byte{0x06, 9}, wants(read(0x201)), 0x202},
		{"LD B,(HL)", []byte{0x46}, wants(read(0xc010)), 0x201},
		{"LD A,(BC)", []byte{0x0a}, wants(read(0xc120)), 0x201},
		{"LD A,(DE)", []byte{0x1a}, wants(read(0xc230)), 0x201},
		{"LD A,(HL+)", []byte{0x2a}, wants(read(0xc010)), 0x201},
		{"LD A,(HL-)", []byte{0x3a}, wants(read(0xc010)), 0x201},
		{"LD (HL),D", []byte{0x72}, wants(write(0xc010, 0xc2)), 0x201},
		{"LD (HL),L", []byte{0x75}, wants(write(0xc010, 0x10)), 0x201},
		{"LD (BC),A", []byte{0x02}, wants(write(0xc120, 0x12)), 0x201},
		{"LD (DE),A", []byte{0x12}, wants(write(0xc230, 0x12)), 0x201},
		{"LD (HL+),A", []byte{0x22}, wants(write(0xc010, 0x12)), 0x201},
		{"LD (HL-),A", []byte{0x32}, wants(write(0xc010, 0x12)), 0x201},
		{"LD (HL),n", []byte{0x36, 7}, wants(read(0x201), write(0xc010, 7)), 0x202},
		{"LDH A,(n)", []byte{0xf0, 0xff}, wants(read(0x201), read(0xffff)), 0x202},
		{"LDH (n),A", []byte{0xe0, 0}, wants(read(0x201), write(0xff00, 0x12)), 0x202},
		{"LDH A,(C)", []byte{0xf2}, wants(read(0xff20)), 0x201},
		{"LDH (C),A", []byte{0xe2}, wants(write(0xff20, 0x12)), 0x201},
		{"LD A,(nn)", []byte{0xfa, 0x34, 0x12}, wants(read(0x201), read(0x202), read(0x1234)), 0x203},
		{"LD (nn),A", []byte{0xea, 0x34, 0x12}, wants(read(0x201), read(0x202), write(0x1234, 0x12)), 0x203},
		{"LD BC,nn", []byte{0x01, 1, 2}, wants(read(0x201), read(0x202)), 0x203},
		{"LD SP,nn", []byte{0x31, 1, 2}, wants(read(0x201), read(0x202)), 0x203},
		{"LD (nn),SP", []byte{0x08, 0x34, 0x12}, wants(read(0x201), read(0x202), write(0x1234, 0), write(0x1235, 0xd0)), 0x203},
		{"LD SP,HL", []byte{0xf9}, wants(idle), 0x201},
		{"LD HL,SP+e", []byte{0xf8, 0x80}, wants(read(0x201), idle), 0x202},
		{"PUSH DE", []byte{0xd5}, wants(idle, write(0xcfff, 0xc2), write(0xcffe, 0x30)), 0x201},
		{"PUSH AF", []byte{0xf5}, wants(idle, write(0xcfff, 0x12), write(0xcffe, 0xf0)), 0x201},
		{"POP AF", []byte{0xf1}, wants(read(0xd000), read(0xd001)), 0x201},
		{"POP HL", []byte{0xe1}, wants(read(0xd000), read(0xd001)), 0x201},
	})
}

func TestC4Sums(t *testing.T) {
	checkCycles(t, base, []cycleCase{
		{"ADD A,B", []byte{0x80}, nil, 0x201},
		{"CP A,(HL)", []byte{0xbe}, wants(read(0xc010)), 0x201},
		{"XOR A,n", []byte{0xee, 1}, wants(read(0x201)), 0x202},
		{"INC L", []byte{0x2c}, nil, 0x201},
		{"INC (HL)", []byte{0x34}, wants(read(0xc010), write(0xc010, 0x80)), 0x201},
		{"DEC (HL)", []byte{0x35}, wants(read(0xc010), write(0xc010, 0x7e)), 0x201},
		{"INC DE", []byte{0x13}, wants(idle), 0x201},
		{"DEC SP", []byte{0x3b}, wants(idle), 0x201},
		{"ADD HL,HL", []byte{0x29}, wants(idle), 0x201},
		{"ADD SP,e", []byte{0xe8, 0x7f}, wants(read(0x201), idle, idle), 0x202},
		{"RLCA", []byte{0x07}, nil, 0x201},
		{"CCF", []byte{0x3f}, nil, 0x201},
		{"DI", []byte{0xf3}, nil, 0x201},
		{"EI", []byte{0xfb}, nil, 0x201},
		{"HALT", []byte{0x76}, nil, 0x201},
		{"STOP", []byte{0x10, 0x76}, wants(read(0x201)), 0x202},
		{"SWAP A", []byte{0xcb, 0x37}, wants(read(0x201)), 0x202},
		{"BIT 7,B", []byte{0xcb, 0x78}, wants(read(0x201)), 0x202},
		{"BIT 7,(HL)", []byte{0xcb, 0x7e}, wants(read(0x201), read(0xc010)), 0x202},
		{"RES 0,(HL)", []byte{0xcb, 0x86}, wants(read(0x201), read(0xc010), write(0xc010, 0x7e)), 0x202},
		{"SET 7,(HL)", []byte{0xcb, 0xfe}, wants(read(0x201), read(0xc010), write(0xc010, 0xff)), 0x202},
		{"RL (HL)", []byte{0xcb, 0x16}, wants(read(0x201), read(0xc010), write(0xc010, 0xff)), 0x202},
	})
}

func TestC4Jumps(t *testing.T) {
	checkCycles(t, base, []cycleCase{ // Z and C are set
		{"JP nn", []byte{0xc3, 1, 3}, wants(read(0x201), read(0x202), idle), 0x301},
		{"JP NZ,nn", []byte{0xc2, 1, 3}, wants(read(0x201), read(0x202)), 0x203},
		{"JP Z,nn", []byte{0xca, 1, 3}, wants(read(0x201), read(0x202), idle), 0x301},
		{"JP NC,nn", []byte{0xd2, 1, 3}, wants(read(0x201), read(0x202)), 0x203},
		{"JP C,nn", []byte{0xda, 1, 3}, wants(read(0x201), read(0x202), idle), 0x301},
		{"JP HL", []byte{0xe9}, nil, 0xc010},
		{"JR e", []byte{0x18, 0x80}, wants(read(0x201), idle), 0x182},
		{"JR NZ,e", []byte{0x20, 0x7f}, wants(read(0x201)), 0x202},
		{"JR Z,e", []byte{0x28, 0x7f}, wants(read(0x201), idle), 0x281},
		{"JR NC,e", []byte{0x30, 0xfe}, wants(read(0x201)), 0x202},
		{"JR C,e", []byte{0x38, 0xfe}, wants(read(0x201), idle), 0x200},
		{"CALL nn", []byte{0xcd, 1, 3}, wants(read(0x201), read(0x202), idle, write(0xcfff, 2), write(0xcffe, 3)), 0x301},
		{"CALL NZ,nn", []byte{0xc4, 1, 3}, wants(read(0x201), read(0x202)), 0x203},
		{"CALL Z,nn", []byte{0xcc, 1, 3}, wants(read(0x201), read(0x202), idle, write(0xcfff, 2), write(0xcffe, 3)), 0x301},
		{"CALL NC,nn", []byte{0xd4, 1, 3}, wants(read(0x201), read(0x202)), 0x203},
		{"CALL C,nn", []byte{0xdc, 1, 3}, wants(read(0x201), read(0x202), idle, write(0xcfff, 2), write(0xcffe, 3)), 0x301},
		{"RET", []byte{0xc9}, wants(read(0xd000), read(0xd001), idle), 0x1234},
		{"RETI", []byte{0xd9}, wants(read(0xd000), read(0xd001), idle), 0x1234},
		{"RET NZ", []byte{0xc0}, wants(idle), 0x201},
		{"RET Z", []byte{0xc8}, wants(idle, read(0xd000), read(0xd001), idle), 0x1234},
		{"RET NC", []byte{0xd0}, wants(idle), 0x201},
		{"RET C", []byte{0xd8}, wants(idle, read(0xd000), read(0xd001), idle), 0x1234},
		{"RST 0", []byte{0xc7}, wants(idle, write(0xcfff, 2), write(0xcffe, 1)), 0},
		{"RST 56", []byte{0xff}, wants(idle, write(0xcfff, 2), write(0xcffe, 1)), 56},
	})
	none := base
	none.F = 0x60 // neither Z nor C
	checkCycles(t, none, []cycleCase{
		{"JP NZ,nn", []byte{0xc2, 1, 3}, wants(read(0x201), read(0x202), idle), 0x301},
		{"JP Z,nn", []byte{0xca, 1, 3}, wants(read(0x201), read(0x202)), 0x203},
		{"JR NC,e", []byte{0x30, 0xfe}, wants(read(0x201), idle), 0x200},
		{"JR C,e", []byte{0x38, 0xfe}, wants(read(0x201)), 0x202},
		{"CALL NZ,nn", []byte{0xc4, 1, 3}, wants(read(0x201), read(0x202), idle, write(0xcfff, 2), write(0xcffe, 3)), 0x301},
		{"CALL C,nn", []byte{0xdc, 1, 3}, wants(read(0x201), read(0x202)), 0x203},
		{"RET NC", []byte{0xd0}, wants(idle, read(0xd000), read(0xd001), idle), 0x1234},
		{"RET Z", []byte{0xc8}, wants(idle), 0x201},
	})
}

// TestC4Round: addresses and the stack go round at their ends.
func TestC4Round(t *testing.T) {
	ends := base
	ends.PC, ends.SP, ends.H, ends.L = 65535, 0, 0xff, 0xff
	checkCycles(t, ends, []cycleCase{
		{"NOP", []byte{0x00}, nil, 0},
		{"LD BC,nn", []byte{0x01, 1, 2}, wants(read(0), read(1)), 2},
		{"LD (nn),SP", []byte{0x08, 0xff, 0xff}, wants(read(0), read(1), write(0xffff, 0), write(0, 0)), 2},
		{"PUSH BC", []byte{0xc5}, wants(idle, write(0xffff, 0xc1), write(0xfffe, 0x20)), 0},
		{"RST 8", []byte{0xcf}, wants(idle, write(0xffff, 0), write(0xfffe, 0)), 8},
		{"CALL nn", []byte{0xcd, 1, 3}, wants(read(0), read(1), idle, write(0xffff, 0), write(0xfffe, 2)), 0x301},
		{"JR e", []byte{0x18, 0x80}, wants(read(0), idle), 0xff81},
		{"LD A,(HL+)", []byte{0x2a}, wants(read(0xffff)), 0},
		{"SET 0,(HL)", []byte{0xcb, 0xc6}, wants(read(0), read(0xffff), write(0xffff, 0xcb)), 1},
	})
	ends.SP = 65535
	checkCycles(t, ends, []cycleCase{
		{"PUSH BC", []byte{0xc5}, wants(idle, write(0xfffe, 0xc1), write(0xfffd, 0x20)), 0},
		{"POP BC", []byte{0xc1}, wants(read(0xffff), read(0)), 0},
	})
	ends.SP = 1
	checkCycles(t, ends, []cycleCase{{"PUSH BC", []byte{0xc5}, wants(idle, write(0, 0xc1), write(0xffff, 0x20)), 0}})
}
