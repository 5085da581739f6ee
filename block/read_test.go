package block_test

import (
	"math/rand"
	"slices"
	"testing"
)

// Read tells what was written last, pending or not.
func TestK2ReadsAllThatWasWritten(t *testing.T) {
	s := of(t, sectors(10, 11, 12))
	read(t, s, 1, all(11))
	write(t, s, 1, all(21))
	read(t, s, 1, all(21))
	write(t, s, 1, all(31))
	read(t, s, 1, all(31))
	s.Sync()
	read(t, s, 1, all(31))
	write(t, s, 2, rows(size, 5))
	read(t, s, 0, all(10))
	read(t, s, 1, all(31))
	read(t, s, 2, rows(size, 5))
	s.Sync()
	s.Sync()
	read(t, s, 0, all(10))
	read(t, s, 2, rows(size, 5))
}

func TestK2NoSuchSector(t *testing.T) {
	for _, sectors := range []int{1, 2, 5, 4096} {
		s := made(t, sectors)
		for _, n := range append([]int{sectors, sectors + 1}, far...) {
			notRead(t, s, n)
		}
		read(t, s, sectors-1, all(0))
	}
	s := made(t, 1)
	write(t, s, 0, all(1))
	for _, n := range far {
		notRead(t, s, n)
	}
	image(t, s, all(1))
}

// What was read may be written into and made longer, and the store is as before, the next sectors too.
func TestK2NewMemory(t *testing.T) {
	s := of(t, sectors(1, 2, 3, 4))
	write(t, s, 1, all(5))
	write(t, s, 2, all(6))
	s.Sync()
	write(t, s, 1, all(7))
	was := tells(s)
	for n := range 4 {
		first, _ := s.Read(n)
		second, _ := s.Read(n)
		scratch(first, 99)
		if !slices.Equal(second, was.reads[n]) {
			t.Errorf("R3: two lists of Read(%d) share memory", n)
		}
		scratch(second, 98)
		same(t, "K2: what was read was written into", was, tells(s))
	}
}

// What was read stays as it was read, whatever the store does then.
func TestK2StaysAsRead(t *testing.T) {
	s := of(t, sectors(1, 2))
	b, _ := s.Read(1)
	write(t, s, 1, all(3))
	s.Sync()
	write(t, s, 0, all(4))
	if !slices.Equal(b, all(2)) {
		t.Error("R3: a list that was read has changed")
	}
}

// Every sector of the greatest store is its own.
func TestK2EverySector(t *testing.T) {
	s := made(t, 4096)
	draw := rand.New(rand.NewSource(1))
	order := draw.Perm(4096)
	for _, n := range order {
		write(t, s, n, rows(size, 7*n))
	}
	pending(t, s, 4096)
	for n := range 4096 {
		read(t, s, n, rows(size, 7*n))
	}
	crash(t, s, nil, make([]byte, 4096*size))
	s.Sync()
	crash(t, s, nil, s.Image())
	for n := range 4096 {
		read(t, s, n, rows(size, 7*n))
	}
}
