package cpu_test

import (
	"math/rand"
	"testing"

	"arcade/api"
	"arcade/cpu"
)

// against runs a machine beside the second processor, from the same registers and the same memory, and holds each cycle of the one against that of the other.
func against(t *testing.T, what string, regs api.Regs, mem *[65536]byte, lines []int) {
	t.Helper()
	m := &machine{CPU: cpu.New(), mem: *mem}
	m.set(t, regs)
	other := &model{regs: regs, mem: mem, lines: lines}
	other.run()
	for i, want := range other.log {
		w, taken := m.cycle(lines[i])
		got := event{w, taken, m.Regs(), m.Boundary()}
		if got != want {
			t.Fatalf("%s: from %+v: cycle %d, lines %d:\n got %v\nwant %v\ncode % x", what, regs, i, lines[i], got, want, mem[regs.PC:min(regs.PC+8, 65536)])
		}
	}
}

// anyLines are lines that stay for a while, each of them.
func anyLines(r *rand.Rand, many int) []int {
	all := make([]int, many)
	now := 0
	for i := range all {
		switch r.Intn(6) {
		case 0:
			now = 0
		case 1:
			now = 1 << r.Intn(5)
		case 2:
			now = r.Intn(32)
		}
		all[i] = now
	}
	return all
}

func anyMemory(r *rand.Rand) *[65536]byte {
	var mem [65536]byte
	r.Read(mem[:])
	return &mem
}

// TestC5AllOpcodes: each of the 512, with all flags, some registers and lines that come and go; C3, C4, C6, C7 and C8 are in it.
func TestC5AllOpcodes(t *testing.T) {
	r := rand.New(rand.NewSource(5))
	mem := anyMemory(r)
	for code := range 512 {
		for flags := range 16 {
			regs := anyRegs(r)
			regs.F = flags * 16
			first, second := byte(code), byte(r.Intn(256))
			if code >= 256 {
				first, second = 203, byte(code)
			}
			mem[regs.PC] = first
			mem[(regs.PC+1)&0xffff] = second
			against(t, "C5", regs, mem, make([]int, 8))
			mem[regs.PC] = first
			mem[(regs.PC+1)&0xffff] = second
			against(t, "C5", regs, mem, anyLines(r, 16))
		}
	}
}

// TestC5Edges: instructions, their bytes, the stack and what HL names, each at places where sums of addresses go round.
func TestC5Edges(t *testing.T) {
	r := rand.New(rand.NewSource(6))
	mem := anyMemory(r)
	for code := range 256 {
		for _, pc := range []int{0, 1, 65533, 65534, 65535} {
			for _, edge := range []int{0, 1, 65534, 65535} {
				regs := anyRegs(r)
				regs.PC, regs.SP, regs.H, regs.L = pc, edge, edge>>8, edge&255
				mem[pc] = byte(code)
				against(t, "C5", regs, mem, make([]int, 7))
			}
		}
	}
}

// TestC5Runs: long runs of any bytes, with lines that come and go.
func TestC5Runs(t *testing.T) {
	r := rand.New(rand.NewSource(7))
	for range 300 {
		mem := anyMemory(r)
		for i := range mem { // few that lock, and many of those that interrupts are about
			switch b := int(mem[i]); {
			case indexIn(noCodes, b) >= 0:
				mem[i] = []byte{251, 243, 118, 16, 217, 0}[r.Intn(6)]
			case r.Intn(12) == 0:
				mem[i] = []byte{251, 251, 118, 118, 217, 243}[r.Intn(6)]
			}
		}
		against(t, "C5", anyRegs(r), mem, anyLines(r, 800))
	}
}

// TestC8Mixes: all rows of four of the instructions that interrupts are about, under some lines.
func TestC8Mixes(t *testing.T) {
	r := rand.New(rand.NewSource(8))
	codes := []byte{0, 251, 243, 118, 16, 217, 62, 211, 199}
	mem := anyMemory(r)
	for mix := range 9 * 9 * 9 * 9 {
		code := []byte{codes[mix%9], codes[mix/9%9], codes[mix/81%9], codes[mix/729]}
		for range 3 {
			copy(mem[0x200:], code)
			copy(mem[0xc000:], []byte{0, 2, 1, 2, 2, 2, 3, 2})
			regs := api.Regs{SP: 0xc000, PC: 0x200, IME: r.Intn(3) == 0}
			against(t, "C8", regs, mem, anyLines(r, 24))
		}
	}
}

func indexIn(list []int, v int) int {
	for i, x := range list {
		if x == v {
			return i
		}
	}
	return -1
}
