package block_test

import (
	"slices"
	"testing"
)

func TestK4Pending(t *testing.T) {
	s := made(t, 3)
	pending(t, s, 0)
	for i := range 600 {
		write(t, s, i%3, all(byte(i)))
		pending(t, s, i+1)
	}
	s.Sync()
	pending(t, s, 0)
	write(t, s, 2, all(1))
	pending(t, s, 1)
	s.Sync()
	s.Sync()
	pending(t, s, 0)
}

// What is synced stays, whatever the picks; what is read stays as it was.
func TestK4SyncedStays(t *testing.T) {
	s := of(t, sectors(1, 2, 3))
	write(t, s, 0, all(4))
	write(t, s, 2, all(5))
	write(t, s, 2, all(6))
	crash(t, s, nil, sectors(1, 2, 3))
	s.Sync()
	image(t, s, sectors(4, 2, 6))
	for _, picks := range [][]int{nil, {}, {0}, {512}, {3, 3, 3, 3}, {516, -4}} {
		crash(t, s, picks, sectors(4, 2, 6))
	}
	write(t, s, 1, all(7))
	crash(t, s, nil, sectors(4, 2, 6))
	crash(t, s, []int{512}, sectors(4, 7, 6))
	s.Sync()
	crash(t, s, nil, sectors(4, 7, 6))
}

// Picks begin anew behind a Sync: the first is that of the first write behind it.
func TestK4PicksBeginAnew(t *testing.T) {
	s := made(t, 2)
	for range 3 {
		write(t, s, 0, all(1))
	}
	s.Sync()
	write(t, s, 0, all(2))
	write(t, s, 1, all(3))
	crash(t, s, []int{512}, sectors(2, 0))
	crash(t, s, []int{0, 512}, sectors(1, 3))
	crash(t, s, []int{0, 0, 0, 512, 512}, sectors(1, 0))
}

// A Sync with nothing pending changes nothing.
func TestK4SyncOfNothing(t *testing.T) {
	s := of(t, rows(2*size, 9))
	was := tells(s)
	s.Sync()
	same(t, "K4: a Sync of nothing", was, tells(s))
	write(t, s, 1, all(8))
	s.Sync()
	was = tells(s)
	s.Sync()
	same(t, "K4: a second Sync", was, tells(s))
}

// Lists that were told ahead of a Sync stay as they were.
func TestK4ToldStays(t *testing.T) {
	s := made(t, 1)
	write(t, s, 0, all(1))
	image, left := s.Image(), s.Crash(nil)
	s.Sync()
	write(t, s, 0, all(2))
	s.Sync()
	if !slices.Equal(image, all(1)) || !slices.Equal(left, all(0)) {
		t.Error("R3: what was told has changed")
	}
}
