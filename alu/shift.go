package alu

import "arcade/api"

// shifted gives every shift its flags: they hang on the result and on the bit that fell out alone.
func shifted(result, out byte) (byte, byte) {
	return result, zeroFlag(result) | flagIf(out != 0, api.FlagC)
}

func rlc(a, f byte) (byte, byte) {
	return shifted(a<<1|a>>7, a&bits[7])
}

func rrc(a, f byte) (byte, byte) {
	return shifted(a>>1|a<<7, a&bits[0])
}

func rl(a, f byte) (byte, byte) {
	return shifted(a<<1|carryOf(f), a&bits[7])
}

func rr(a, f byte) (byte, byte) {
	return shifted(a>>1|carryOf(f)<<7, a&bits[0])
}

func sla(a, f byte) (byte, byte) {
	return shifted(a<<1, a&bits[7])
}

func sra(a, f byte) (byte, byte) {
	return shifted(a>>1|a&bits[7], a&bits[0])
}

func swap(a, f byte) (byte, byte) {
	return shifted(a<<4|a>>4, 0)
}

func srl(a, f byte) (byte, byte) {
	return shifted(a>>1, a&bits[0])
}
