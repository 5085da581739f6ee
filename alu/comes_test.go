package alu_test

import (
	"testing"

	"arcade/alu"
)

func TestA8SubUndone(t *testing.T) {
	for a := range 256 {
		for b := range 256 {
			x, f := alu.Arith(2, byte(a), byte(b), 0)
			if y, _ := alu.Arith(0, x, byte(b), f); y != byte(a) {
				t.Fatalf("A8: %02x - %02x + %02x = %02x", a, b, b, y)
			}
		}
	}
}

// byHalves does the op at the low bytes, and that with what carries over at the high ones.
func byHalves(low, high int, a, b uint16) (uint16, byte) {
	x, f := alu.Arith(low, byte(a), byte(b), 0xff)
	y, g := alu.Arith(high, byte(a>>8), byte(b>>8), f)
	return uint16(y)<<8 | uint16(x), g & c
}

func TestA8Words(t *testing.T) {
	for _, a := range someWords() {
		for _, b := range someWords() {
			if x, f := byHalves(0, 1, a, b); x != a+b || f != flag(int(a)+int(b) > 65535, c) {
				t.Fatalf("A8: %04x + %04x by halves = %04x, %02x", a, b, x, f)
			}
			if x, f := byHalves(2, 3, a, b); x != a-b || f != flag(a < b, c) {
				t.Fatalf("A8: %04x - %04x by halves = %04x, %02x", a, b, x, f)
			}
		}
	}
}

func decimal(x int) byte {
	return byte(x/10*16 + x%10)
}

func checkDecimal(t *testing.T, op, x, y int, f byte, r int) {
	t.Helper()
	a, g := alu.Arith(op, decimal(x), decimal(y), f)
	a, g = alu.Turn(4, a, g)
	want := decimal((r + 100) % 100)
	flags := flag(want == 0, z) + flag(op >= 2, n) + flag(r < 0 || r > 99, c)
	if a != want || g != flags {
		t.Fatalf("A8: op %d of decimal %d, %d, f %02x: %02x, %02x, want %02x, %02x", op, x, y, f, a, g, want, flags)
	}
}

func TestA8Decimal(t *testing.T) {
	for x := range 100 {
		for y := range 100 {
			for _, f := range someFlags {
				in := int(f & c / c)
				checkDecimal(t, 0, x, y, f, x+y)
				checkDecimal(t, 1, x, y, f, x+y+in)
				checkDecimal(t, 2, x, y, f, x-y)
				checkDecimal(t, 3, x, y, f, x-y-in)
			}
		}
	}
}

// times does one op again and again, each time with the flags that the last one left.
func times(do oneByte, op, many int, a, f byte) (byte, byte) {
	for range many {
		a, f = do(op, a, f)
	}
	return a, f
}

func TestA8Round(t *testing.T) {
	for a := range 256 {
		for _, f := range []byte{0, c} {
			for op, many := range []int{8, 8, 9, 9} {
				for name, do := range map[string]oneByte{"Shift": alu.Shift, "Turn": alu.Turn} {
					x, g := times(do, op, many, byte(a), f)
					if x != byte(a) || many == 9 && g&c != f {
						t.Fatalf("A8: %d times %s %d of %02x, f %02x: %02x, %02x", many, name, op, a, f, x, g)
					}
				}
			}
		}
	}
}

func TestA8Undone(t *testing.T) {
	for a := range 256 {
		for _, f := range someFlags {
			for _, op := range []int{0, 2} {
				x, g := alu.Shift(op, byte(a), f)
				x, g = alu.Shift(op+1, x, g)
				if x != byte(a) || op == 2 && g&c != f&c {
					t.Fatalf("A8: Shift %d, then %d, of %02x, f %02x: %02x, %02x", op, op+1, a, f, x, g)
				}
			}
			if x, _ := times(alu.Shift, 6, 2, byte(a), f); x != byte(a) {
				t.Fatalf("A8: SWAP twice of %02x: %02x", a, x)
			}
			if x, g := times(alu.Turn, 5, 2, byte(a), f); x != byte(a) || g&(z|c) != f&(z|c) {
				t.Fatalf("A8: CPL twice of %02x, f %02x: %02x, %02x", a, f, x, g)
			}
			if x, g := times(alu.Turn, 7, 2, byte(a), f); x != byte(a) || g&(z|c) != f&(z|c) {
				t.Fatalf("A8: CCF twice of %02x, f %02x: %02x, %02x", a, f, x, g)
			}
		}
	}
}

// TestR4NothingKept: no call hangs on those ahead of it.
func TestR4NothingKept(t *testing.T) {
	for op := -1; op < 9; op++ {
		for a := range 256 {
			x1, f1 := alu.Turn(op, byte(a), c)
			alu.Arith(op, 0xff, 0xff, 0xff)
			alu.Step(op, 0, 0)
			alu.Shift(op, 0xff, 0xff)
			alu.Set(op, 0)
			alu.Res(op, 0xff)
			if x2, f2 := alu.Turn(op, byte(a), c); x1 != x2 || f1 != f2 {
				t.Fatalf("R4: Turn(%d, %02x, 10) = %02x, %02x, and later %02x, %02x", op, a, x1, f1, x2, f2)
			}
		}
	}
}
