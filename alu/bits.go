package alu

import "arcade/api"

// bits are those of a byte, by their numbers.
var bits = [8]byte{1, 2, 4, 8, 16, 32, 64, 128}

// Bit asks for a bit: the flags.
func Bit(n int, a byte, f byte) byte {
	if n < 0 || n >= len(bits) {
		return f & allFlags
	}
	return zeroFlag(a&bits[n]) | api.FlagH | f&api.FlagC
}

// Res makes a bit 0.
func Res(n int, a byte) byte {
	if n < 0 || n >= len(bits) {
		return a
	}
	return a &^ bits[n]
}

// Set makes a bit 1.
func Set(n int, a byte) byte {
	if n < 0 || n >= len(bits) {
		return a
	}
	return a | bits[n]
}
