package cpu_test

import (
	"math/rand"
	"testing"

	"arcade/api"
	"arcade/cpu"
)

const (
	z = api.FlagZ
	n = api.FlagN
	h = api.FlagH
	c = api.FlagC
)

// noCodes are the opcodes that are none.
var noCodes = []int{211, 219, 221, 227, 228, 235, 236, 237, 244, 252, 253}

// machine is a processor with a memory.
type machine struct {
	*cpu.CPU
	mem [65536]byte
}

func newMachine(at int, code ...byte) *machine {
	m := &machine{CPU: cpu.New()}
	m.put(at, code...)
	return m
}

func (m *machine) put(at int, code ...byte) {
	for i, b := range code {
		m.mem[(at+i)&0xffff] = b
	}
}

// cycle does one: what was wanted, and what Tick answered.
func (m *machine) cycle(lines int) (api.Want, int) {
	want := m.Want()
	data := 0x5a // what is not read must not count
	switch want.Kind {
	case api.Read:
		data = int(m.mem[want.Addr])
	case api.Write:
		m.mem[want.Addr] = byte(want.Data)
	}
	return want, m.Tick(data, lines)
}

// instruction does cycles up to the next boundary, and tells how many.
func (m *machine) instruction(t *testing.T, lines int) int {
	t.Helper()
	for i := range 20 {
		m.cycle(lines)
		if m.Boundary() {
			return i + 1
		}
	}
	t.Fatal("20 cycles without a boundary")
	return 0
}

func (m *machine) set(t *testing.T, r api.Regs) {
	t.Helper()
	if e := m.Set(r); e != api.OK {
		t.Fatalf("C2: Set(%+v) = %d", r, e)
	}
}

func (m *machine) regsAre(t *testing.T, what string, want api.Regs) {
	t.Helper()
	if got := m.Regs(); got != want {
		t.Errorf("%s: Regs = %+v, want %+v", what, got, want)
	}
}

// wantsAre does as many cycles, and holds each against what must be wanted.
func (m *machine) wantsAre(t *testing.T, what string, lines int, wants ...api.Want) {
	t.Helper()
	for i, want := range wants {
		if got, taken := m.cycle(lines); got != want || taken != 0 {
			t.Fatalf("%s: cycle %d: %+v, taken %d, want %+v", what, i, got, taken, want)
		}
	}
}

func (m *machine) boundaryIs(t *testing.T, what string, want bool) {
	t.Helper()
	if m.Boundary() != want {
		t.Errorf("%s: Boundary = %v", what, !want)
	}
}

var idle api.Want

func read(at int) api.Want        { return api.Want{Kind: api.Read, Addr: at} }
func write(at, data int) api.Want { return api.Want{Kind: api.Write, Addr: at, Data: data} }

// startRegs are those of a new processor.
var startRegs = api.Regs{A: 1, F: 176, B: 0, C: 19, D: 0, E: 216, H: 1, L: 77, SP: 65534, PC: 256}

// edgeWords are words at which sums of addresses go round.
var edgeWords = []int{0, 1, 2, 255, 256, 0x7fff, 0x8000, 65279, 65280, 65533, 65534, 65535}

func anyWord(r *rand.Rand) int {
	if r.Intn(3) == 0 {
		return edgeWords[r.Intn(len(edgeWords))]
	}
	return r.Intn(65536)
}

// anyRegs are registers of a processor that goes on.
func anyRegs(r *rand.Rand) api.Regs {
	hl := anyWord(r)
	return api.Regs{
		A: r.Intn(256), F: r.Intn(16) * 16, B: r.Intn(256), C: r.Intn(256), D: r.Intn(256), E: r.Intn(256),
		H: hl >> 8, L: hl & 255, SP: anyWord(r), PC: anyWord(r), IME: r.Intn(2) == 0,
	}
}

// within tells whether registers are within their bounds.
func within(r api.Regs) bool {
	for _, b := range []int{r.A, r.F, r.B, r.C, r.D, r.E, r.H, r.L} {
		if b != b&255 {
			return false
		}
	}
	return r.F%16 == 0 && r.SP == r.SP&65535 && r.PC == r.PC&65535 && r.State == r.State&3
}
