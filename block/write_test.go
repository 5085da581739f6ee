package block_test

import (
	"math"
	"testing"

	"arcade/api"
)

func TestK3Writes(t *testing.T) {
	for _, n := range []int{1, 2, 3, 4096} {
		s := made(t, n)
		want := make([]byte, n*size)
		for i, at := range []int{0, n - 1, n / 2, 0} {
			data := rows(size, 50*i)
			write(t, s, at, data)
			copy(want[at*size:], data)
			pending(t, s, i+1)
			image(t, s, want)
		}
	}
}

// The same bytes once more are a write, too.
func TestK3SameBytesArePending(t *testing.T) {
	s := made(t, 1)
	write(t, s, 0, all(0))
	write(t, s, 0, all(0))
	pending(t, s, 2)
}

func TestK3NoSuchSector(t *testing.T) {
	for _, n := range []int{1, 2, 5} {
		s := made(t, n)
		write(t, s, n-1, all(1))
		for _, at := range append([]int{n, n + 1}, far...) {
			notWritten(t, s, at, all(2), api.ErrArg)
			notWritten(t, s, at, nil, api.ErrArg)
		}
	}
	s := made(t, 4096)
	if e := s.Write(4096, all(2)); e != api.ErrArg {
		t.Errorf("K3: Write(4096) of 4096 sectors = %d", e)
	}
	if e := s.Write(4095, all(2)); e != api.OK {
		t.Errorf("K3: Write(4095) of 4096 sectors = %d", e)
	}
}

func TestK3DataOfAnotherSize(t *testing.T) {
	s := of(t, rows(3*size, 0))
	for _, n := range []int{0, 1, 2, 256, 510, 511, 513, 514, 1024, 1536, 65536 + 512} {
		notWritten(t, s, 1, make([]byte, n), api.ErrArg)
	}
	notWritten(t, s, 1, nil, api.ErrArg)
	notWritten(t, s, 1, roomy(all(1)[:511], 1), api.ErrArg)
	write(t, s, 1, roomy(all(1), 2))
	read(t, s, 1, all(1))
	read(t, s, 2, rows(3*size, 0)[2*size:])
}

func TestK3Limit(t *testing.T) {
	for _, n := range []int{1, 2, 3, 20} {
		s := made(t, 2)
		s.Limit(n)
		for i := range n {
			write(t, s, i%2, all(byte(i+1)))
		}
		notWritten(t, s, 0, all(99), api.ErrBlockFull)
		notWritten(t, s, 1, all(99), api.ErrBlockFull)
		pending(t, s, n)
	}
}

func TestK3NoWriteMore(t *testing.T) {
	for _, n := range []int{0, -1, -2, math.MinInt32, math.MinInt, math.MinInt + 1} {
		s := made(t, 2)
		write(t, s, 0, all(1))
		s.Limit(n)
		for range 3 {
			notWritten(t, s, 0, all(2), api.ErrBlockFull)
		}
		s.Sync()
		notWritten(t, s, 0, all(2), api.ErrBlockFull)
		image(t, s, sectors(1, 0))
		s.Limit(1)
		write(t, s, 1, all(3))
		notWritten(t, s, 0, all(2), api.ErrBlockFull)
	}
}

// A limit counts the writes behind it alone; a new one does away with the one ahead of it.
func TestK3LimitAnew(t *testing.T) {
	s := made(t, 1)
	for i := range 5 {
		write(t, s, 0, all(byte(i)))
	}
	s.Limit(3)
	write(t, s, 0, all(6))
	s.Limit(3)
	for range 3 {
		write(t, s, 0, all(7))
	}
	notWritten(t, s, 0, all(8), api.ErrBlockFull)
	s.Limit(5)
	write(t, s, 0, all(9))
	s.Limit(1)
	write(t, s, 0, all(10))
	notWritten(t, s, 0, all(11), api.ErrBlockFull)
	s.Limit(2)
	s.Limit(0)
	notWritten(t, s, 0, all(12), api.ErrBlockFull)
	pending(t, s, 11)
}

// Neither a Sync nor a look at the store, and no write that is refused, is a write that the limit counts.
func TestK3WhatALimitCounts(t *testing.T) {
	s := made(t, 1)
	s.Limit(2)
	for range 5 {
		s.Sync()
		tells(s)
		notRead(t, s, 1)
		notWritten(t, s, 1, all(1), api.ErrArg)
		notWritten(t, s, 0, all(1)[1:], api.ErrArg)
	}
	write(t, s, 0, all(1))
	s.Sync()
	write(t, s, 0, all(2))
	s.Sync()
	notWritten(t, s, 0, all(3), api.ErrBlockFull)
}

func TestK3GreatLimit(t *testing.T) {
	for _, n := range []int{1000, 1 << 32, math.MaxInt32, math.MaxInt - 1, math.MaxInt} {
		s := made(t, 1)
		s.Limit(n)
		for i := range 1000 {
			write(t, s, 0, all(byte(i)))
		}
		want := api.OK
		if n == 1000 {
			want = api.ErrBlockFull
		}
		if e := s.Write(0, all(1)); e != want {
			t.Errorf("K3: Limit(%d), and write 1001: %d, want %d", n, e, want)
		}
	}
}

// An argument that may not be is told ahead of the limit.
func TestK3WhichError(t *testing.T) {
	s := made(t, 1)
	s.Limit(0)
	notWritten(t, s, 1, all(1), api.ErrArg)
	notWritten(t, s, -1, all(1), api.ErrArg)
	notWritten(t, s, 0, nil, api.ErrArg)
	notWritten(t, s, 0, all(1)[:511], api.ErrArg)
	notWritten(t, s, 0, append(all(1), 1), api.ErrArg)
	notWritten(t, s, 0, all(1), api.ErrBlockFull)
}

// The data are not changed, and what is done to them behind a write is not seen: neither read, nor left by a crash, nor made safe.
func TestK3KeepsNoList(t *testing.T) {
	s := made(t, 2)
	data := rows(size, 3)
	given := roomy(data, 77)
	write(t, s, 0, given)
	write(t, s, 1, given)
	s.Sync()
	write(t, s, 1, given)
	if !spared(given, data, 77) {
		t.Error("R3: a write has changed its data")
	}
	was := tells(s)
	scratch(given, 55)
	same(t, "K3: the data were written into", was, tells(s))
	crash(t, s, []int{512}, append(rows(size, 3), data...))
	s.Sync()
	crash(t, s, nil, append(rows(size, 3), data...))

	given = rows(size, 4)
	write(t, s, 0, given)
	scratch(given, 56)
	s.Sync()
	crash(t, s, nil, append(rows(size, 4), data...))
}
