package cpu_test

import (
	"testing"

	"arcade/alu"
	"arcade/api"
)

// doesCase is an instruction, and what it makes of the registers of base (all but PC).
type doesCase struct {
	what string
	code []byte
	make func(r *api.Regs)
}

func checkDoes(t *testing.T, cases []doesCase) {
	t.Helper()
	for _, k := range cases {
		m := newMachine(0x200, k.code...)
		m.put(0xc010, 0x7f)
		m.put(0xd000, 0x3f, 0x12)
		m.set(t, base)
		m.instruction(t, 0)
		want := base
		want.PC += len(k.code)
		k.make(&want)
		m.regsAre(t, "C5: "+k.what, want)
	}
}

func TestC5Loads(t *testing.T) {
	checkDoes(t, []doesCase{
		{"NOP", []byte{0x00}, func(r *api.Regs) {}},
		{"LD B,L", []byte{0x45}, func(r *api.Regs) { r.B = 0x10 }},
		{"LD A,(HL)", []byte{0x7e}, func(r *api.Regs) { r.A = 0x7f }},
		{"LD H,(HL)", []byte{0x66}, func(r *api.Regs) { r.H = 0x7f }},
		{"LD L,n", []byte{0x2e, 0xab}, func(r *api.Regs) { r.L = 0xab }},
		{"LD (HL),E", []byte{0x73}, func(r *api.Regs) {}},
		{"LD A,(HL+)", []byte{0x2a}, func(r *api.Regs) { r.A, r.L = 0x7f, 0x11 }},
		{"LD A,(HL-)", []byte{0x3a}, func(r *api.Regs) { r.A, r.L = 0x7f, 0x0f }},
		{"LD (HL+),A", []byte{0x22}, func(r *api.Regs) { r.L = 0x11 }},
		{"LD (HL-),A", []byte{0x32}, func(r *api.Regs) { r.L = 0x0f }},
		{"LD A,(BC)", []byte{0x0a}, func(r *api.Regs) { r.A = 0 }},
		{"LD A,(nn)", []byte{0xfa, 0x10, 0xc0}, func(r *api.Regs) { r.A = 0x7f }},
		{"LDH A,(n)", []byte{0xf0, 0x80}, func(r *api.Regs) { r.A = 0 }},
		{"LD BC,nn", []byte{0x01, 0x34, 0x12}, func(r *api.Regs) { r.B, r.C = 0x12, 0x34 }},
		{"LD SP,nn", []byte{0x31, 0x34, 0x12}, func(r *api.Regs) { r.SP = 0x1234 }},
		{"LD SP,HL", []byte{0xf9}, func(r *api.Regs) { r.SP = 0xc010 }},
		{"LD HL,SP+e", []byte{0xf8, 0xff}, func(r *api.Regs) { r.H, r.L, r.F = 0xcf, 0xff, 0 }},
		{"PUSH HL", []byte{0xe5}, func(r *api.Regs) { r.SP = 0xcffe }},
		{"POP DE", []byte{0xd1}, func(r *api.Regs) { r.SP, r.D, r.E = 0xd002, 0x12, 0x3f }},
		{"POP AF", []byte{0xf1}, func(r *api.Regs) { r.SP, r.A, r.F = 0xd002, 0x12, 0x30 }},
	})
}

func TestC5Sums(t *testing.T) {
	checkDoes(t, []doesCase{
		{"ADD A,B", []byte{0x80}, func(r *api.Regs) { r.A, r.F = 0xd3, 0 }},
		{"ADC A,(HL)", []byte{0x8e}, func(r *api.Regs) { r.A, r.F = 0x92, h }},
		{"SUB A,A", []byte{0x97}, func(r *api.Regs) { r.A, r.F = 0, z|n }},
		{"SBC A,n", []byte{0xde, 0x12}, func(r *api.Regs) { r.A, r.F = 0xff, n|h|c }},
		{"AND A,n", []byte{0xe6, 0xed}, func(r *api.Regs) { r.A, r.F = 0, z|h }},
		{"XOR A,E", []byte{0xab}, func(r *api.Regs) { r.A, r.F = 0x22, 0 }},
		{"OR A,C", []byte{0xb1}, func(r *api.Regs) { r.A, r.F = 0x32, 0 }},
		{"CP A,L", []byte{0xbd}, func(r *api.Regs) { r.F = n }},
		{"INC E", []byte{0x1c}, func(r *api.Regs) { r.E, r.F = 0x31, c }},
		{"DEC C", []byte{0x0d}, func(r *api.Regs) { r.C, r.F = 0x1f, n|h|c }},
		{"INC (HL)", []byte{0x34}, func(r *api.Regs) { r.F = h | c }},
		{"DEC (HL)", []byte{0x35}, func(r *api.Regs) { r.F = n | c }},
		{"INC BC", []byte{0x03}, func(r *api.Regs) { r.C = 0x21 }},
		{"DEC HL", []byte{0x2b}, func(r *api.Regs) { r.L = 0x0f }},
		{"INC SP", []byte{0x33}, func(r *api.Regs) { r.SP = 0xd001 }},
		{"ADD HL,SP", []byte{0x39}, func(r *api.Regs) { r.H, r.L, r.F = 0x90, 0x10, z|c }},
		{"ADD SP,e", []byte{0xe8, 0x80}, func(r *api.Regs) { r.SP, r.F = 0xcf80, 0 }},
		{"RLA", []byte{0x17}, func(r *api.Regs) { r.A, r.F = 0x25, 0 }},
		{"CPL", []byte{0x2f}, func(r *api.Regs) { r.A = 0xed }},
		{"CCF", []byte{0x3f}, func(r *api.Regs) { r.F = z }},
		{"SWAP D", []byte{0xcb, 0x32}, func(r *api.Regs) { r.D, r.F = 0x2c, 0 }},
		{"RR (HL)", []byte{0xcb, 0x1e}, func(r *api.Regs) { r.F = c }},
		{"BIT 1,A", []byte{0xcb, 0x4f}, func(r *api.Regs) { r.F = h | c }},
		{"BIT 7,(HL)", []byte{0xcb, 0x7e}, func(r *api.Regs) { r.F = z | h | c }},
		{"RES 6,B", []byte{0xcb, 0xb0}, func(r *api.Regs) { r.B = 0x81 }},
		{"SET 0,H", []byte{0xcb, 0xc4}, func(r *api.Regs) { r.H = 0xc1 }},
	})
}

// TestC5Alu: sums of A with a byte of the instruction, at all ops, against chapter 1.
func TestC5Alu(t *testing.T) {
	for op := range 8 {
		for a := 0; a < 256; a += 5 {
			for b := 0; b < 256; b += 3 {
				f := byte(a+b) & 0xf0
				m := newMachine(0)
				m.CPU.Set(api.Regs{A: a, F: int(f)})
				m.Tick(0xc6+8*op, 0)
				m.Tick(b, 0)
				v, g := alu.Arith(op, byte(a), byte(b), f)
				if r := m.Regs(); r != (api.Regs{A: int(v), F: int(g), PC: 2}) {
					t.Fatalf("C5: op %d of %d, %d, flags %02x: %+v", op, a, b, f, r)
				}
			}
		}
	}
}

// TestC5PopF: F never has one of its lower four bits.
func TestC5PopF(t *testing.T) {
	for low := range 256 {
		m := newMachine(0x200, 0xf1, 0xf5)
		m.put(0xd000, byte(low), 7)
		m.set(t, base)
		m.instruction(t, 0)
		if f := m.Regs().F; f != low/16*16 {
			t.Errorf("C5: POP AF of %d: F is %d", low, f)
		}
		m.instruction(t, 0)
		if b := int(m.mem[0xd000]); b != low/16*16 {
			t.Errorf("C5: PUSH AF behind it wrote %d", b)
		}
	}
}

func TestC5Locks(t *testing.T) {
	for _, code := range noCodes {
		m := newMachine(256, byte(code))
		m.wantsAre(t, "C5: a code that is none", 31, read(256), idle, idle, idle)
		want := startRegs
		want.PC, want.State = 257, api.Locked
		m.regsAre(t, "C5: locked", want)
		m.boundaryIs(t, "C5: locked", true)
		m = newMachine(65535, byte(code))
		m.set(t, api.Regs{PC: 65535, IME: true})
		m.wantsAre(t, "C5: locked with interrupts", 31, read(65535), idle, idle, idle, idle, idle, idle)
		m.regsAre(t, "C5: locked with interrupts", api.Regs{IME: true, State: api.Locked})
	}
	locks := 0
	for code := range 256 {
		m := newMachine(256, byte(code))
		m.instruction(t, 0)
		if m.Regs().State == api.Locked {
			locks++
		}
	}
	if locks != len(noCodes) {
		t.Errorf("C5: %d opcodes lock", locks)
	}
}

// TestC5LocksBehind: one that is none counts as an instruction behind EI, and behind HALT.
func TestC5LocksBehind(t *testing.T) {
	m := newMachine(256, 251, 0xfd)
	m.wantsAre(t, "C5: EI and one that is none", 1, read(256), read(257), idle, idle)
	want := startRegs
	want.PC, want.State, want.IME = 258, api.Locked, true
	m.regsAre(t, "C5: locked behind EI", want)
	m = newMachine(256, 118, 0xed)
	m.wantsAre(t, "C5: HALT and one that is none", 1, read(256), read(257), idle)
	want = startRegs
	want.PC, want.State = 257, api.Locked
	m.regsAre(t, "C5: locked behind HALT", want)
}
