package alu

import "arcade/api"

// sum is done in int, so that what is above 255 is still to be seen.
func sum(a, b, c byte) (byte, byte) {
	whole := int(a) + int(b) + int(c)
	half := a&15 + b&15 + c
	result := byte(whole)
	return result, zeroFlag(result) | flagIf(half > 15, api.FlagH) | flagIf(whole > 255, api.FlagC)
}

// difference holds a against b and c together in int: as bytes these might wrap round to 0.
func difference(a, b, c byte) (byte, byte) {
	result := a - b - c
	borrows := flagIf(a&15 < b&15+c, api.FlagH) | flagIf(int(a) < int(b)+int(c), api.FlagC)
	return result, zeroFlag(result) | api.FlagN | borrows
}

func add(a, b, f byte) (byte, byte) {
	return sum(a, b, 0)
}

func adc(a, b, f byte) (byte, byte) {
	return sum(a, b, carryOf(f))
}

func sub(a, b, f byte) (byte, byte) {
	return difference(a, b, 0)
}

func sbc(a, b, f byte) (byte, byte) {
	return difference(a, b, carryOf(f))
}

func and(a, b, f byte) (byte, byte) {
	result := a & b
	return result, zeroFlag(result) | api.FlagH
}

func xor(a, b, f byte) (byte, byte) {
	result := a ^ b
	return result, zeroFlag(result)
}

func or(a, b, f byte) (byte, byte) {
	result := a | b
	return result, zeroFlag(result)
}

func cp(a, b, f byte) (byte, byte) {
	_, flags := difference(a, b, 0)
	return a, flags
}

func inc(a, f byte) (byte, byte) {
	result := a + 1
	return result, zeroFlag(result) | flagIf(result&15 == 0, api.FlagH) | f&api.FlagC
}

func dec(a, f byte) (byte, byte) {
	result := a - 1
	return result, zeroFlag(result) | api.FlagN | flagIf(result&15 == 15, api.FlagH) | f&api.FlagC
}
