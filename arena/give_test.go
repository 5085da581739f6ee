package arena_test

import (
	"testing"

	"arcade/api"
)

// TestA4Give: a buffer that is given back is free, and the arena's no more; the others stay.
func TestA4Give(t *testing.T) {
	p := small(t, 100)
	for i := range 3 {
		store(t, p, 0, take(t, p, 0, 4, 0, lease(i, 0, 4)), 0, filled(4, byte(i+1)), api.OK)
	}
	give(t, p, 0, 1, api.OK)
	free(t, p, 0, 1)
	used(t, p, 0, 8, api.OK)
	leases(t, p, 0, lease(0, 0, 4), lease(2, 0, 4))
	notLoaded(t, p, 0, 1, 0, 1, api.ErrArenaBuffer)
	store(t, p, 0, 1, 0, []byte{1}, api.ErrArenaBuffer)
	load(t, p, 0, 0, 0, filled(4, 1)...)
	load(t, p, 0, 2, 0, filled(4, 3)...)
	give(t, p, 0, 1, api.ErrArenaBuffer)
	give(t, p, 0, 2, api.OK)
	give(t, p, 0, 0, api.OK)
	free(t, p, 0, 0, 1, 2)
	leases(t, p, 0)
	used(t, p, 0, 0, api.OK)
}

// TestA4Wrong: arenas that are not open, buffers that are another one's, free, or none; nothing is changed.
func TestA4Wrong(t *testing.T) {
	p := made(t, 3, 4, 3, 16, 2)
	open(t, p, 100, 0)
	open(t, p, 100, 1)
	take(t, p, 0, 4, 1, lease(1, 0, 4))
	take(t, p, 1, 16, 1, lease(4, 1, 16))
	was := tells(p)
	for _, id := range append([]int{2, 3, 64}, far...) {
		for _, buffer := range append([]int{0, 1, 4, 5}, far...) {
			give(t, p, id, buffer, api.ErrArenaNone)
		}
		closes(t, p, id, 0, api.ErrArenaNone)
	}
	for _, buffer := range append([]int{0, 2, 3, 4, 5, 6}, far...) {
		give(t, p, 0, buffer, api.ErrArenaBuffer)
	}
	give(t, p, 1, 1, api.ErrArenaBuffer)
	same(t, "A4: behind what was refused", tells(p), was)
	give(t, p, 0, 1, api.OK)
	give(t, p, 1, 4, api.OK)
}

// TestA4Close: all buffers of an arena are free, those of others are not; it is no more, and its number is free.
func TestA4Close(t *testing.T) {
	p := made(t, 3, 4, 4, 16, 4)
	for id := range 3 {
		open(t, p, 100, id)
	}
	take(t, p, 0, 16, 3, lease(7, 1, 16))
	take(t, p, 1, 16, 1, lease(5, 1, 16))
	take(t, p, 0, 1, 3, lease(3, 0, 4))
	take(t, p, 0, 16, 0, lease(4, 1, 16))
	take(t, p, 1, 4, 1, lease(1, 0, 4))
	take(t, p, 0, 4, 0, lease(0, 0, 4))
	give(t, p, 0, 3, api.OK)
	store(t, p, 1, 5, 0, filled(16, 55), api.OK)
	closes(t, p, 0, 36, api.OK)
	free(t, p, 0, 0, 2, 3)
	free(t, p, 1, 4, 6, 7)
	closes(t, p, 0, 0, api.ErrArenaNone)
	used(t, p, 0, 0, api.ErrArenaNone)
	leases(t, p, 0)
	give(t, p, 0, 7, api.ErrArenaNone)
	notTaken(t, p, 0, 1, 0, api.ErrArenaNone)
	notLoaded(t, p, 0, 7, 0, 1, api.ErrArenaNone)
	store(t, p, 0, 7, 0, []byte{1}, api.ErrArenaNone)
	leases(t, p, 1, lease(5, 1, 16), lease(1, 0, 4))
	load(t, p, 1, 5, 0, filled(16, 55)...)
	closes(t, p, 2, 0, api.OK)
	closes(t, p, 1, 20, api.OK)
	free(t, p, 0, 0, 1, 2, 3)
	free(t, p, 1, 4, 5, 6, 7)
	open(t, p, 4, 0)
}

// TestA4All: as many arenas as there may be, with as many buffers as there may be, all of which come back.
func TestA4All(t *testing.T) {
	var pairs []int
	for class := range 8 {
		pairs = append(pairs, 10*class+1, 512)
	}
	p := made(t, 64, pairs...)
	was := tells(p)
	sizes := [64]int{}
	for id := range 64 {
		open(t, p, api.MaxPool, id)
	}
	for i := range 4096 {
		id, class := i*37%64, i%8
		l, e := p.Take(id, 10*class+1, i*i)
		if e != api.OK || l.Class != class || l.Size != 10*class+1 || l.Buffer/512 != class {
			t.Fatalf("A3: Take %d = %+v, %d", i, l, e)
		}
		sizes[id] += l.Size
		store(t, p, id, l.Buffer, 10*class, []byte{byte(id + 1)}, api.OK)
	}
	for class := range 8 {
		free(t, p, class)
		notTaken(t, p, class, 10*class+1, 5, api.ErrArenaEmpty)
	}
	for id := range 64 {
		for _, l := range p.Leases(id) {
			load(t, p, id, l.Buffer, l.Size-1, byte(id+1))
		}
	}
	for i := range 64 {
		id := i * 11 % 64
		closes(t, p, id, sizes[id], api.OK)
	}
	same(t, "A4: behind the end of all arenas", tells(p), was)
}
