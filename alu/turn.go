package alu

import "arcade/api"

// withoutZero parts the turns of A from the shifts that they are otherwise.
func withoutZero(result, flags byte) (byte, byte) {
	return result, flags &^ api.FlagZ
}

func rlca(a, f byte) (byte, byte) {
	return withoutZero(rlc(a, f))
}

func rrca(a, f byte) (byte, byte) {
	return withoutZero(rrc(a, f))
}

func rla(a, f byte) (byte, byte) {
	return withoutZero(rl(a, f))
}

func rra(a, f byte) (byte, byte) {
	return withoutZero(rr(a, f))
}

func daa(a, f byte) (byte, byte) {
	if f&api.FlagN != 0 {
		return decimalDifference(a, f)
	}
	return decimalSum(a, f)
}

// decimalSum asks a as it was for both corrections: the one must not bring about the other.
func decimalSum(a, f byte) (byte, byte) {
	result, flags := a, byte(0)
	if f&api.FlagC != 0 || a > 0x99 {
		result += 0x60
		flags = api.FlagC
	}
	if f&api.FlagH != 0 || a&15 > 9 {
		result += 0x06
	}
	return result, zeroFlag(result) | flags
}

// decimalDifference asks the flags alone: behind a borrow the digits themselves tell nothing.
func decimalDifference(a, f byte) (byte, byte) {
	result := a
	if f&api.FlagC != 0 {
		result -= 0x60
	}
	if f&api.FlagH != 0 {
		result -= 0x06
	}
	return result, zeroFlag(result) | api.FlagN | f&api.FlagC
}

func cpl(a, f byte) (byte, byte) {
	return ^a, f&(api.FlagZ|api.FlagC) | api.FlagN | api.FlagH
}

func scf(a, f byte) (byte, byte) {
	return a, f&api.FlagZ | api.FlagC
}

func ccf(a, f byte) (byte, byte) {
	return a, f&(api.FlagZ|api.FlagC) ^ api.FlagC
}
