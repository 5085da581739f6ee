package alu

import "arcade/api"

// allFlags masks f: its other bits are 0 in every answer.
const allFlags = api.FlagZ | api.FlagN | api.FlagH | api.FlagC

// flagIf spares the sums a branch for each of their flags.
func flagIf(holds bool, flag byte) byte {
	if holds {
		return flag
	}
	return 0
}

// zeroFlag is Z of a result.
func zeroFlag(result byte) byte {
	return flagIf(result == 0, api.FlagZ)
}

// carryOf is C of f as the number that a sum or a bit 0 takes in.
func carryOf(f byte) byte {
	if f&api.FlagC != 0 {
		return 1
	}
	return 0
}
