package alu_test

import (
	"testing"

	"arcade/alu"
)

func TestA5Bit(t *testing.T) {
	for _, k := range []struct {
		n          int
		a, f, want byte
	}{{7, 0x80, c, h | c}, {7, 0x7f, 0, z | h}, {0, 0xfe, 0xff, z | h | c}, {0, 0x01, 0xef, h}, {3, 0x08, z | n, h}, {8, 1, 0x15, c}} {
		if f := alu.Bit(k.n, k.a, k.f); f != k.want {
			t.Errorf("A5: Bit(%d, %02x, %02x) = %02x, want %02x", k.n, k.a, k.f, f, k.want)
		}
	}
}

func TestA5All(t *testing.T) {
	for n := range 8 {
		for a := range 256 {
			s := spelt(byte(a))
			ahead, bit, behind := s[:7-n], s[7-n], s[8-n:]
			if x, y := alu.Res(n, byte(a)), unspelt(ahead+"0"+behind); x != y {
				t.Fatalf("A5: Res(%d, %02x) = %02x, want %02x", n, a, x, y)
			}
			if x, y := alu.Set(n, byte(a)), unspelt(ahead+"1"+behind); x != y {
				t.Fatalf("A5: Set(%d, %02x) = %02x, want %02x", n, a, x, y)
			}
			for f := range 256 {
				if x, y := alu.Bit(n, byte(a), byte(f)), flag(bit == '0', z)+h+byte(f)&c; x != y {
					t.Fatalf("A5: Bit(%d, %02x, %02x) = %02x, want %02x", n, a, f, x, y)
				}
			}
		}
	}
}

func TestA5None(t *testing.T) {
	checkNone(t, "A5 Bit", func(n int, a, f byte) (byte, byte) { return a, alu.Bit(n, a, f) }, noNumbers)
	checkNone(t, "A5 Res", func(n int, a, f byte) (byte, byte) { return alu.Res(n, a), f / 16 * 16 }, noNumbers)
	checkNone(t, "A5 Set", func(n int, a, f byte) (byte, byte) { return alu.Set(n, a), f / 16 * 16 }, noNumbers)
}
