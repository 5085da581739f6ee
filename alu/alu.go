// Package alu is the arithmetic of the processor: bytes and words in, results and flags out. Nothing is kept from call to call. See DOC.md and shared/doc.
package alu

// Arith is an operation of two bytes: the result, and the flags.
func Arith(op int, a byte, b byte, f byte) (byte, byte) {
	does := [8]func(a, b, f byte) (byte, byte){add, adc, sub, sbc, and, xor, or, cp}
	if op < 0 || op >= len(does) {
		return nothing(a, f)
	}
	return does[op](a, b, f)
}

// Step is one more, or one less.
func Step(op int, a byte, f byte) (byte, byte) {
	does := [2]func(a, f byte) (byte, byte){inc, dec}
	if op < 0 || op >= len(does) {
		return nothing(a, f)
	}
	return does[op](a, f)
}

// Shift moves bits.
func Shift(op int, a byte, f byte) (byte, byte) {
	does := [8]func(a, f byte) (byte, byte){rlc, rrc, rl, rr, sla, sra, swap, srl}
	if op < 0 || op >= len(does) {
		return nothing(a, f)
	}
	return does[op](a, f)
}

// Turn is what is done to the register A alone.
func Turn(op int, a byte, f byte) (byte, byte) {
	does := [8]func(a, f byte) (byte, byte){rlca, rrca, rla, rra, daa, cpl, scf, ccf}
	if op < 0 || op >= len(does) {
		return nothing(a, f)
	}
	return does[op](a, f)
}

// nothing is what an op does that is none: even then no answer has the lowest bits of f.
func nothing(a, f byte) (byte, byte) {
	return a, f & allFlags
}
