package block_test

import (
	"bytes"
	"math"
	"slices"
	"testing"

	"arcade/api"
	"arcade/block"
)

func TestK1New(t *testing.T) {
	for _, n := range []int{1, 2, 3, 7, 8, 100, 4095, 4096} {
		s := made(t, n)
		if got := s.Sectors(); got != n {
			t.Errorf("K1: New(%d) has %d sectors", n, got)
		}
		zero := make([]byte, n*size)
		pending(t, s, 0)
		image(t, s, zero)
		crash(t, s, nil, zero)
		read(t, s, 0, all(0))
		read(t, s, n-1, all(0))
		notRead(t, s, n)
		notRead(t, s, -1)
	}
}

func TestK1NewIsRefused(t *testing.T) {
	for _, n := range []int{0, -1, -2, -4096, 4097, 4098, 8192, 1 << 32, 1<<32 + 1, 1 << 55, 1<<55 + 1, math.MaxInt32, math.MinInt32, math.MaxInt, math.MinInt, math.MinInt + 1} {
		if s, e := block.New(n); s != nil || e != api.ErrArg {
			t.Errorf("K1: New(%d) = %v, %d, want %d", n, s != nil, e, api.ErrArg)
		}
	}
}

func TestK1Of(t *testing.T) {
	for _, n := range []int{1, 2, 3, 9, 4095, 4096} {
		b := rows(n*size, 7)
		s := of(t, b)
		if got := s.Sectors(); got != n {
			t.Errorf("K1: Of %d bytes has %d sectors", len(b), got)
		}
		pending(t, s, 0)
		image(t, s, b)
		crash(t, s, []int{0, 512, 3}, b)
		for i := range n {
			read(t, s, i, b[i*size:(i+1)*size])
		}
		notRead(t, s, n)
	}
}

func TestK1OfIsRefused(t *testing.T) {
	for _, n := range []int{0, 1, 2, 256, 511, 513, 1023, 1025, 4095, 4097, 4096*size - 1, 4096*size + 1, 4097*size - 1, 4097 * size, 4097*size + 1, 8192 * size} {
		if s, e := block.Of(make([]byte, n)); s != nil || e != api.ErrArg {
			t.Errorf("K1: Of %d bytes = %v, %d, want %d", n, s != nil, e, api.ErrArg)
		}
	}
	if s, e := block.Of(nil); s != nil || e != api.ErrArg {
		t.Errorf("K1: Of(nil) = %v, %d", s != nil, e)
	}
	room := make([]byte, 4*size)
	if s, e := block.Of(room[:0]); s != nil || e != api.ErrArg {
		t.Errorf("K1: Of no bytes with room = %v, %d", s != nil, e)
	}
	if s, e := block.Of(room[:size-1]); s != nil || e != api.ErrArg {
		t.Errorf("K1: Of 511 bytes with room = %v, %d", s != nil, e)
	}
}

// A list that a store was made of stays its owner's: neither is it changed, nor does the store see what is done to it.
func TestK1OfKeepsNoList(t *testing.T) {
	b := rows(3*size, 1)
	given := roomy(b, 99)
	s := of(t, given)
	for n := range 3 {
		write(t, s, n, all(byte(n)))
	}
	s.Sync()
	write(t, s, 2, all(9))
	if !spared(given, b, 99) {
		t.Error("R3: Of's list was changed by writes")
	}
	s = of(t, given)
	was := tells(s)
	scratch(given, 55)
	same(t, "K1: the list that was handed to Of was changed", was, tells(s))
	crash(t, s, nil, b)
	s.Sync()
	crash(t, s, nil, b)
}

// No limit stands at the beginning, however many writes there are.
func TestK1NoLimit(t *testing.T) {
	for _, s := range []*block.Store{made(t, 2), of(t, rows(2*size, 0))} {
		for i := range 10000 {
			write(t, s, i%2, all(byte(i)))
			if i%1000 == 999 {
				s.Sync()
			}
		}
		image(t, s, sectors(byte(9998%256), byte(9999%256)))
	}
}

// What is done to one store is not seen in another one, though one was made of what the other told.
func TestK1StoresAreApart(t *testing.T) {
	a, b := made(t, 2), made(t, 2)
	write(t, a, 0, all(1))
	a.Limit(0)
	image(t, b, sectors(0, 0))
	pending(t, b, 0)
	write(t, b, 1, all(2))
	image(t, a, sectors(1, 0))

	c, d := of(t, a.Image()), of(t, a.Crash([]int{3}))
	pending(t, c, 0)
	pending(t, d, 0)
	crash(t, c, nil, sectors(1, 0))
	part := slices.Concat(bytes.Repeat([]byte{1}, 3), make([]byte, 2*size-3))
	crash(t, d, nil, part)
	write(t, c, 1, all(3))
	write(t, d, 1, all(4))
	c.Sync()
	image(t, a, sectors(1, 0))
	crash(t, d, nil, part)
	crash(t, c, nil, sectors(1, 3))
}
