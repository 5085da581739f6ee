package alu_test

import (
	"testing"

	"arcade/alu"
)

// someWords are edges of bytes, of twelve bits and of words, and some between them.
func someWords() []uint16 {
	words := []uint16{0x1234, 0x5678, 0x8a23, 0x0605, 0xfedc}
	for _, edge := range []int{0, 0x08, 0x10, 0x80, 0x100, 0x800, 0x1000, 0x8000, 0xf000, 0xff00, 0xfff0} {
		for by := -2; by <= 2; by++ {
			words = append(words, uint16(edge+by))
		}
	}
	return words
}

func TestA6Written(t *testing.T) {
	for _, k := range []struct {
		a, b uint16
		f    byte
		want uint16
		flag byte
	}{
		{0x8a23, 0x0605, z, 0x9028, z | h},
		{0xffff, 0x0001, 0, 0x0000, h | c},
		{0xffff, 0xffff, 0xff, 0xfffe, z | h | c},
		{0x8000, 0x8000, 0x7f, 0x0000, c},
		{0x0800, 0x0800, n, 0x1000, h},
		{0x07ff, 0x0800, c, 0x0fff, 0},
		{0x0000, 0x0000, 0, 0x0000, 0},
		{0x0001, 0x0001, 0xff, 0x0002, z},
	} {
		if x, f := alu.AddWord(k.a, k.b, k.f); x != k.want || f != k.flag {
			t.Errorf("A6: AddWord(%04x, %04x, %02x) = %04x, %02x, want %04x, %02x", k.a, k.b, k.f, x, f, k.want, k.flag)
		}
	}
}

func TestA6Many(t *testing.T) {
	for _, a := range someWords() {
		for _, b := range someWords() {
			for f := range 256 {
				r := int(a) + int(b)
				want := byte(f)&z + flag(int(a)%4096+int(b)%4096 >= 4096, h) + flag(r >= 65536, c)
				if x, g := alu.AddWord(a, b, byte(f)); int(x) != r%65536 || g != want {
					t.Fatalf("A6: AddWord(%04x, %04x, %02x) = %04x, %02x, want %04x, %02x", a, b, f, x, g, r%65536, want)
				}
			}
		}
	}
}

func TestA7Written(t *testing.T) {
	for _, k := range []struct {
		sp   uint16
		e    byte
		want uint16
		flag byte
	}{
		{0xfff8, 0x08, 0x0000, h | c},
		{0x0000, 0xff, 0xffff, 0},
		{0x0000, 0x80, 0xff80, 0},
		{0x0000, 0x7f, 0x007f, 0},
		{0x0001, 0xff, 0x0000, h | c},
		{0x0080, 0x80, 0x0000, c},
		{0xff80, 0x7f, 0xffff, 0},
		{0xffff, 0x7f, 0x007e, h | c},
		{0x0fff, 0x00, 0x0fff, 0},
		{0x0ff0, 0x10, 0x1000, c},
		{0x0ff8, 0x01, 0x0ff9, 0},
		{0x0000, 0x00, 0x0000, 0},
	} {
		if x, f := alu.AddOffset(k.sp, k.e); x != k.want || f != k.flag {
			t.Errorf("A7: AddOffset(%04x, %02x) = %04x, %02x, want %04x, %02x", k.sp, k.e, x, f, k.want, k.flag)
		}
	}
}

func TestA7All(t *testing.T) {
	for sp := range 65536 {
		for e := range 256 {
			by := e
			if e > 127 {
				by = e - 256
			}
			want := flag(sp%16+e%16 >= 16, h) + flag(sp%256+e >= 256, c)
			if x, f := alu.AddOffset(uint16(sp), byte(e)); int(x) != (sp+by+65536)%65536 || f != want {
				t.Fatalf("A7: AddOffset(%04x, %02x) = %04x, %02x, want %04x, %02x", sp, e, x, f, (sp+by+65536)%65536, want)
			}
		}
	}
}
