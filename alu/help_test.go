package alu_test

import (
	"math"
	"strconv"
	"testing"
)

// The flags, by the numbers of the document and not by those of api, so that both are held against each other.
const (
	z = 0x80
	n = 0x40
	h = 0x20
	c = 0x10
)

// someFlags are those on which an answer might hang: with C and without, each also with lowest bits that must not be seen.
var someFlags = []byte{0x00, 0x0f, 0x10, 0x1f, 0xe0, 0xef, 0xf0, 0xff}

// noNumbers are neither ops nor bits: just outside, beyond a byte and a word whose low part would be one, and the utmost.
var noNumbers = []int{-1, -2, -7, -8, -256, 8, 9, 16, 255, 256, 257, 65536, 1 << 32, 1<<32 + 1, 1 << 62, math.MaxInt, math.MaxInt - 1, math.MinInt, math.MinInt + 1}

type oneByte func(op int, a, f byte) (byte, byte)

type oneCase struct {
	op         int
	a, f       byte
	want, flag byte
}

func checkOnes(t *testing.T, promise string, do oneByte, cases []oneCase) {
	t.Helper()
	for _, k := range cases {
		if x, f := do(k.op, k.a, k.f); x != k.want || f != k.flag {
			t.Errorf("%s: op %d of %02x, f %02x: %02x, %02x, want %02x, %02x", promise, k.op, k.a, k.f, x, f, k.want, k.flag)
		}
	}
}

// checkAll holds do against want at all bytes and all flags.
func checkAll(t *testing.T, promise string, ops int, do, want oneByte) {
	t.Helper()
	for op := range ops {
		for a := range 256 {
			for f := range 256 {
				x, g := do(op, byte(a), byte(f))
				y, w := want(op, byte(a), byte(f))
				if x != y || g != w {
					t.Fatalf("%s: op %d of %02x, f %02x: %02x, %02x, want %02x, %02x", promise, op, a, f, x, g, y, w)
				}
			}
		}
	}
}

// checkNone sees to it that ops that are none do nothing.
func checkNone(t *testing.T, promise string, do oneByte, ops []int) {
	t.Helper()
	for _, op := range ops {
		for a := range 256 {
			for f := range 256 {
				if x, g := do(op, byte(a), byte(f)); x != byte(a) || g != byte(f/16*16) {
					t.Fatalf("%s: op %d of %02x, f %02x: %02x, %02x, but it is no op", promise, op, a, f, x, g)
				}
			}
		}
	}
}

func flag(holds bool, bit byte) byte {
	if holds {
		return bit
	}
	return 0
}

// spelt is a byte as its bits, the highest first.
func spelt(a byte) string {
	return strconv.FormatInt(256+int64(a), 2)[1:]
}

func unspelt(t string) byte {
	x, err := strconv.ParseUint(t, 2, 8)
	if err != nil {
		panic(err)
	}
	return byte(x)
}
