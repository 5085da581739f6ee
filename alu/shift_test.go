package alu_test

import (
	"testing"

	"arcade/alu"
)

func TestA3Written(t *testing.T) {
	checkOnes(t, "A3", alu.Shift, []oneCase{
		{0, 0x85, 0, 0x0b, c},
		{0, 0x01, 0xff, 0x02, 0},
		{1, 0x01, 0, 0x80, c},
		{1, 0x80, 0xff, 0x40, 0},
		{2, 0x80, c, 0x01, c},
		{2, 0x80, 0xef, 0x00, z | c},
		{2, 0x00, c, 0x01, 0},
		{3, 0x01, c, 0x80, c},
		{3, 0x01, 0xef, 0x00, z | c},
		{3, 0x00, c, 0x80, 0},
		{4, 0x80, 0xff, 0x00, z | c},
		{4, 0x41, c, 0x82, 0},
		{5, 0x80, c, 0xc0, 0},
		{5, 0x81, 0, 0xc0, c},
		{5, 0x01, 0xff, 0x00, z | c},
		{6, 0xf0, 0xf0, 0x0f, 0},
		{6, 0x81, c, 0x18, 0},
		{6, 0x00, 0xff, 0x00, z},
		{7, 0x81, 0, 0x40, c},
		{7, 0x01, 0xff, 0x00, z | c},
		{7, 0x80, c, 0x40, 0},
	})
}

// wantShift moves the bits as letters.
func wantShift(op int, a, f byte) (byte, byte) {
	s, in := spelt(a), spelt(f)[3:4]
	up, down := s[0] == '1', s[7] == '1'
	moved := []string{s[1:] + s[:1], s[7:] + s[:7], s[1:] + in, in + s[:7], s[1:] + "0", s[:1] + s[:7], s[4:] + s[:4], "0" + s[:7]}
	fell := []bool{up, down, up, down, up, down, false, down}
	return unspelt(moved[op]), flag(moved[op] == "00000000", z) + flag(fell[op], c)
}

func TestA3All(t *testing.T) {
	checkAll(t, "A3", 8, alu.Shift, wantShift)
}

func TestA3None(t *testing.T) {
	checkNone(t, "A3", alu.Shift, noNumbers)
}

func TestA4Written(t *testing.T) {
	checkOnes(t, "A4", alu.Turn, []oneCase{
		{0, 0x80, z, 0x01, c},
		{0, 0x00, 0xff, 0x00, 0},
		{1, 0x01, 0xff, 0x80, c},
		{1, 0x00, z, 0x00, 0},
		{2, 0x80, 0, 0x00, c},
		{2, 0x00, 0xff, 0x01, 0},
		{3, 0x01, 0, 0x00, c},
		{3, 0x00, 0xff, 0x80, 0},
		{5, 0x35, z | c, 0xca, z | n | h | c},
		{5, 0xff, 0x0f, 0x00, n | h},
		{6, 0x35, 0xff, 0x35, z | c},
		{6, 0x00, 0, 0x00, c},
		{7, 0x35, 0xff, 0x35, z},
		{7, 0x00, 0x0f, 0x00, c},
	})
}

func TestA4Decimal(t *testing.T) {
	checkOnes(t, "A4", alu.Turn, []oneCase{
		{4, 0x7d, 0, 0x83, 0},
		{4, 0x9a, 0, 0x00, z | c},
		{4, 0x99, 0, 0x99, 0},
		{4, 0xa0, 0, 0x00, z | c},
		{4, 0x09, 0, 0x09, 0},
		{4, 0x0a, 0, 0x10, 0},
		{4, 0x94, 0, 0x94, 0},
		{4, 0x9f, 0, 0x05, c},
		{4, 0x94, h, 0x9a, 0},
		{4, 0x00, h, 0x06, 0},
		{4, 0x00, c, 0x60, c},
		{4, 0x00, h | c | 0x0f, 0x66, c},
		{4, 0x00, z, 0x00, z},
		{4, 0x01, z, 0x01, 0},
		{4, 0x4b, n | h, 0x45, n},
		{4, 0x66, n | h | c, 0x00, z | n | c},
		{4, 0x00, n | c, 0xa0, n | c},
		{4, 0x00, n | h, 0xfa, n},
		{4, 0xff, n, 0xff, n},
		{4, 0x9a, z | n | 0x0f, 0x9a, n},
		{4, 0x00, n, 0x00, z | n},
	})
}

// wantTurn says DAA as what is added modulo 256, by the places of H and C in f.
func wantTurn(op int, a, f byte) (byte, byte) {
	kept := f & (z | c)
	switch op {
	case 4:
		return wantDecimal(int(a), f)
	case 5:
		return 255 - a, kept + n + h
	case 6:
		return a, f&z + c
	case 7:
		return a, f&z + c - f&c
	}
	x, g := wantShift(op, a, f)
	return x, g % z
}

func wantDecimal(a int, f byte) (byte, byte) {
	high, low, down := f&c != 0, f&h != 0, f&n != 0
	if !down {
		high = high || a >= 154
		low = low || a%16 >= 10
	}
	by := 96*int(flag(high, 1)) + 6*int(flag(low, 1))
	r := (a + by) % 256
	if down {
		r = (a + 256 - by) % 256
	}
	return byte(r), flag(r == 0, z) + f&n + flag(high, c)
}

func TestA4All(t *testing.T) {
	checkAll(t, "A4", 8, alu.Turn, wantTurn)
}

func TestA4None(t *testing.T) {
	checkNone(t, "A4", alu.Turn, noNumbers)
}
