package cpu

import "arcade/api"

// The registers of one byte, by their numbers in opcodes. There the place of F stands for the byte at HL.
const (
	regB = iota
	regC
	regD
	regE
	regH
	regL
	regF
	regA
)

// atHL is the number that stands for the byte at HL in an opcode.
const atHL = regF

// The pairs by their numbers in opcodes. The last one is SP, or, of what is pushed and popped, AF.
const (
	pairBC = iota
	pairDE
	pairHL
	pairLast
)

// allFlags are the bits of F that there are.
const allFlags = api.FlagZ | api.FlagN | api.FlagH | api.FlagC

// registers are what Regs tells.
type registers struct {
	bytes  [8]byte
	sp, pc uint16
	ime    bool
	state  int
}

func (r *registers) told() api.Regs {
	return api.Regs{
		A: int(r.bytes[regA]), F: int(r.bytes[regF]),
		B: int(r.bytes[regB]), C: int(r.bytes[regC]),
		D: int(r.bytes[regD]), E: int(r.bytes[regE]),
		H: int(r.bytes[regH]), L: int(r.bytes[regL]),
		SP: int(r.sp), PC: int(r.pc),
		IME: r.ime, State: r.state,
	}
}

// registersOf takes registers that are within their bounds.
func registersOf(r api.Regs) registers {
	return registers{
		bytes: [8]byte{
			regA: byte(r.A), regF: byte(r.F),
			regB: byte(r.B), regC: byte(r.C),
			regD: byte(r.D), regE: byte(r.E),
			regH: byte(r.H), regL: byte(r.L),
		},
		sp: uint16(r.SP), pc: uint16(r.PC),
		ime: r.IME, state: r.State,
	}
}

// within tells whether registers are such as may be.
func within(r api.Regs) bool {
	for _, b := range [8]int{r.A, r.F, r.B, r.C, r.D, r.E, r.H, r.L} {
		if b < 0 || b > 255 {
			return false
		}
	}
	for _, w := range [2]int{r.SP, r.PC} {
		if w < 0 || w > 65535 {
			return false
		}
	}
	return r.F&^allFlags == 0 && r.State >= api.Running && r.State <= api.Locked
}

func wordOf(high, low byte) uint16 {
	return uint16(high)<<8 | uint16(low)
}

// pair tells a pair of which the last one is SP.
func (r *registers) pair(p byte) uint16 {
	if p == pairLast {
		return r.sp
	}
	return wordOf(r.bytes[2*p], r.bytes[2*p+1])
}

func (r *registers) setPair(p byte, w uint16) {
	if p == pairLast {
		r.sp = w
		return
	}
	r.bytes[2*p], r.bytes[2*p+1] = byte(w>>8), byte(w)
}

// pushedPair tells a pair of which the last one is AF.
func (r *registers) pushedPair(p byte) uint16 {
	if p == pairLast {
		return wordOf(r.bytes[regA], r.bytes[regF])
	}
	return r.pair(p)
}

func (r *registers) setPushedPair(p byte, w uint16) {
	if p == pairLast {
		r.bytes[regA], r.bytes[regF] = byte(w>>8), byte(w)&allFlags
		return
	}
	r.setPair(p, w)
}

// setByte sets a register by its number in an opcode. The byte at HL is none: an act of its own has written it.
func (r *registers) setByte(n byte, v byte) {
	if n != atHL {
		r.bytes[n] = v
	}
}
