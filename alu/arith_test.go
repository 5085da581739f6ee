package alu_test

import (
	"testing"

	"arcade/alu"
)

type arithCase struct {
	op         int
	a, b, f    byte
	want, flag byte
}

func TestA1Written(t *testing.T) {
	for _, k := range []arithCase{
		{0, 0x3a, 0xc6, 0, 0x00, z | h | c},
		{0, 0x08, 0x08, 0, 0x10, h},
		{0, 0x07, 0x08, 0, 0x0f, 0},
		{0, 0x80, 0x80, 0, 0x00, z | c},
		{0, 0xff, 0x00, c, 0xff, 0},
		{0, 0x01, 0x01, 0xff, 0x02, 0},
		{1, 0xe1, 0x0f, c, 0xf1, h},
		{1, 0x0f, 0x00, c, 0x10, h},
		{1, 0xff, 0x00, c, 0x00, z | h | c},
		{1, 0xff, 0xff, c, 0xff, h | c},
		{1, 0x00, 0x00, z | n | h | 0x0f, 0x00, z},
		{2, 0x3e, 0x3e, 0, 0x00, z | n},
		{2, 0x00, 0x01, 0, 0xff, n | h | c},
		{2, 0x10, 0x01, 0, 0x0f, n | h},
		{2, 0x0f, 0x10, 0, 0xff, n | c},
		{2, 0x05, 0x05, c, 0x00, z | n},
		{3, 0x3b, 0x4f, c, 0xeb, n | h | c},
		{3, 0x00, 0xff, c, 0x00, z | n | h | c},
		{3, 0x10, 0x0f, c, 0x00, z | n | h},
		{3, 0x10, 0x00, c, 0x0f, n | h},
		{3, 0x10, 0x10, z | n | h | 0x0f, 0x00, z | n},
		{4, 0xf0, 0x3c, 0xff, 0x30, h},
		{4, 0xf0, 0x0f, c, 0x00, z | h},
		{5, 0xf0, 0x3c, 0xff, 0xcc, 0},
		{5, 0x5a, 0x5a, c, 0x00, z},
		{6, 0xf0, 0x3c, 0xff, 0xfc, 0},
		{6, 0x00, 0x00, c, 0x00, z},
		{7, 0x3c, 0x2f, 0, 0x3c, n | h},
		{7, 0x3c, 0x3c, c, 0x3c, z | n},
		{7, 0x00, 0x01, 0, 0x00, n | h | c},
	} {
		if x, f := alu.Arith(k.op, k.a, k.b, k.f); x != k.want || f != k.flag {
			t.Errorf("A1: Arith(%d, %02x, %02x, %02x) = %02x, %02x, want %02x, %02x", k.op, k.a, k.b, k.f, x, f, k.want, k.flag)
		}
	}
}

// wantArith finds carries by another way than the program: a bit of a sum that is not that of a xor b took one in.
func wantArith(op int, a, b, f byte) (byte, byte) {
	x, y, in := int(a), int(b), int(f)/c%2
	switch op {
	case 0:
		return wantSum(x, y, x+y)
	case 1:
		return wantSum(x, y, x+y+in)
	case 2:
		r, g := wantSum(x, y, x-y)
		return r, g + n
	case 3:
		r, g := wantSum(x, y, x-y-in)
		return r, g + n
	case 7:
		_, g := wantSum(x, y, x-y)
		return a, g + n
	}
	return wantBits(op, spelt(a), spelt(b))
}

func wantSum(x, y, r int) (byte, byte) {
	g := flag(r&255 == 0, z) + flag((x^y^r)&16 != 0, h) + flag(r < 0 || r > 255, c)
	return byte(r & 255), g
}

func wantBits(op int, a, b string) (byte, byte) {
	r := ""
	for i := range 8 {
		both, one := a[i] == '1' && b[i] == '1', a[i] != b[i]
		if op == 4 && both || op == 5 && one || op == 6 && (both || one) {
			r += "1"
		} else {
			r += "0"
		}
	}
	return unspelt(r), flag(r == "00000000", z) + flag(op == 4, h)
}

func TestA1All(t *testing.T) {
	for op := range 8 {
		for a := range 256 {
			for b := range 256 {
				for _, f := range someFlags {
					x, g := alu.Arith(op, byte(a), byte(b), f)
					if y, w := wantArith(op, byte(a), byte(b), f); x != y || g != w {
						t.Fatalf("A1: Arith(%d, %02x, %02x, %02x) = %02x, %02x, want %02x, %02x", op, a, b, f, x, g, y, w)
					}
				}
			}
		}
	}
}

func TestA1None(t *testing.T) {
	for _, b := range []byte{0, 1, 0x10, 0xff} {
		checkNone(t, "A1", func(op int, a, f byte) (byte, byte) { return alu.Arith(op, a, b, f) }, noNumbers)
	}
}

func TestA2Written(t *testing.T) {
	checkOnes(t, "A2", alu.Step, []oneCase{
		{0, 0xff, c, 0x00, z | h | c},
		{0, 0xff, 0, 0x00, z | h},
		{0, 0x0f, 0xff, 0x10, h | c},
		{0, 0x0e, z | n | h, 0x0f, 0},
		{0, 0x00, 0x0f, 0x01, 0},
		{1, 0x01, 0, 0x00, z | n},
		{1, 0x00, 0, 0xff, n | h},
		{1, 0x00, 0x1f, 0xff, n | h | c},
		{1, 0x10, z, 0x0f, n | h},
		{1, 0x0f, 0xff, 0x0e, n | c},
	})
}

// wantStep is a sum with 1 of which C is not heeded.
func wantStep(op int, a, f byte) (byte, byte) {
	x := int(a)
	if op == 0 {
		r, g := wantSum(x, 1, x+1)
		return r, g&(z|h) + f&c
	}
	r, g := wantSum(x, 1, x-1)
	return r, g&(z|h) + n + f&c
}

func TestA2All(t *testing.T) {
	checkAll(t, "A2", 2, alu.Step, wantStep)
}

func TestA2None(t *testing.T) {
	checkNone(t, "A2", alu.Step, append([]int{2, 3, 4, 7}, noNumbers...))
}
