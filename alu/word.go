package alu

import "arcade/api"

// AddWord is a sum of words.
func AddWord(a uint16, b uint16, f byte) (uint16, byte) {
	whole := int(a) + int(b)
	twelve := a&0x0fff + b&0x0fff
	return uint16(whole), f&api.FlagZ | flagIf(twelve > 0x0fff, api.FlagH) | flagIf(whole > 0xffff, api.FlagC)
}

// AddOffset is a word, and a byte with its sign. Its flags are those of the low bytes, whatever the sign.
func AddOffset(sp uint16, e byte) (uint16, byte) {
	_, flags := sum(byte(sp), e, 0)
	return sp + uint16(int8(e)), flags &^ api.FlagZ
}
