package arena_test

import (
	"math"
	"slices"
	"testing"

	"arcade/api"
	"arcade/arena"
)

// TestA1Refused: each kind of what is no configuration, alone, at its bound and far beyond.
func TestA1Refused(t *testing.T) {
	nine := config(1, 1, 0, 2, 0, 3, 0, 4, 0, 5, 0, 6, 0, 7, 0, 8, 0, 9, 0)
	for i, c := range []api.PoolConfig{
		{},
		{Arenas: 1},
		{Classes: []api.Class{}, Arenas: 64},
		nine,
		{Classes: make([]api.Class, 100000), Arenas: 1},
		config(1, 0, 1),
		config(1, -1, 1),
		config(1, 65537, 1),
		config(1, 65537, 0),
		config(1, 4, -1),
		config(1, 4, 513),
		config(0, 4, 1),
		config(-1, 4, 1),
		config(65, 4, 1),
		config(1, 4, 1, 4, 1),
		config(1, 4, 0, 4, 0),
		config(1, 5, 1, 4, 1),
		config(1, 4, 1, 16, 1, 15, 1),
		config(1, 4, 1, 16, 1, 8, 1, 32, 1),
		config(1, 4, 1, 0, 1),
		config(1, 4, 1, 16, -1),
		config(1, 4, 1, 16, 513),
		config(1, 4, 1, 65537, 1),
		config(1, 1, 1, 65536, 256),     // one byte more than MaxPool
		config(1, 65536, 257),           // a buffer more
		config(1, 32769, 512),           // 512 bytes more
		config(1, 32768, 512, 32769, 1), // within the last class
		config(1, 65529, 512, 65530, 512, 65531, 512, 65532, 512, 65533, 512, 65534, 512, 65535, 512, 65536, 512),
	} {
		if p, e := arena.New(c); p != nil || e != api.ErrArenaPool {
			t.Errorf("A1: line %d: New = %v, %d", i, p != nil, e)
		}
	}
}

// TestA1Far: numbers that are beyond all bounds, among them those whose products and sums begin anew.
func TestA1Far(t *testing.T) {
	for _, n := range far {
		for _, c := range []api.PoolConfig{
			config(1, n, 1), config(1, 4, n), config(n, 4, 1), config(1, n, n), config(n, n, n),
			config(1, 4, 1, n, 1), config(1, 4, 1, 16, n), config(1, n, 0), config(1, 1<<32, 1<<32), config(1, 4, math.MinInt, 16, math.MinInt),
		} {
			if p, e := arena.New(c); p != nil || e != api.ErrArenaPool {
				t.Errorf("A1: New(%+v) = %v, %d", c, p != nil, e)
			}
		}
	}
}

// TestA1Bounds: as many classes, arenas, buffers and bytes as there may be, and as few.
func TestA1Bounds(t *testing.T) {
	for _, x := range []struct {
		arenas int
		pairs  []int
	}{
		{1, []int{1, 0}},
		{64, []int{1, 0}},
		{1, []int{65536, 0}},
		{1, []int{1, 512}},
		{64, []int{1, 512, 65535, 1, 65536, 1}},
		{2, []int{1, 1, 2, 2, 3, 3, 4, 4, 5, 5, 6, 6, 7, 7, 8, 8}},
		{1, []int{1, 512, 2, 512, 3, 512, 4, 512, 5, 512, 6, 512, 7, 512, 65536, 223}},
		{1, []int{65536, 256}}, // MaxPool bytes, to the byte
		{1, []int{32768, 512}},
		{1, []int{1, 0, 65536, 256}},
		{1, []int{16384, 512, 32768, 256}},
		{64, []int{32768, 510, 65536, 1}},
	} {
		p := made(t, x.arenas, x.pairs...)
		next := 0
		for class := range len(x.pairs) / 2 {
			many := x.pairs[2*class+1]
			free(t, p, class, run(next, next+many-1)...)
			next += many
		}
		free(t, p, len(x.pairs)/2)
		for id := range 70 {
			used(t, p, id, 0, api.ErrArenaNone)
		}
		for id := range x.arenas {
			open(t, p, 0, id)
		}
		notOpened(t, p, 0, api.ErrArenaMany)
	}
}

// TestA1Numbers: buffers are numbered by their classes, all free, all 0.
func TestA1Numbers(t *testing.T) {
	p := made(t, 3, 2, 2, 3, 0, 5, 3, 100, 1)
	free(t, p, 0, 0, 1)
	free(t, p, 1)
	free(t, p, 2, 2, 3, 4)
	free(t, p, 3, 5)
	open(t, p, 1000, 0)
	for _, want := range []api.Lease{lease(0, 0, 2), lease(1, 0, 2), lease(2, 2, 5), lease(3, 2, 5), lease(4, 2, 5), lease(5, 3, 100)} {
		load(t, p, 0, take(t, p, 0, want.Size, 0, want), 0, make([]byte, want.Size)...)
	}
	used(t, p, 0, 119, api.OK)
}

// TestA1List: the list of classes is neither written into nor kept.
func TestA1List(t *testing.T) {
	filling := api.Class{Size: 7, Many: 7}
	classes := config(1, 4, 3, 16, 2).Classes
	lent := roomy(classes, filling)
	p, e := arena.New(api.PoolConfig{Classes: lent, Arenas: 2})
	if e != api.OK {
		t.Fatalf("A1: New = %d", e)
	}
	other := small(t)
	if !spared(lent, classes, filling) {
		t.Error("A1: the list of classes is written into")
	}
	scratch(lent, api.Class{Size: 1, Many: 1})
	for _, x := range []*arena.Pool{p, other} {
		open(t, x, 100, 0)
		take(t, x, 0, 4, 1, lease(1, 0, 4))
		take(t, x, 0, 5, 1, lease(4, 1, 16))
		free(t, x, 0, 0, 2)
		free(t, x, 1, 3)
		notTaken(t, x, 0, 17, 0, api.ErrArenaSize)
	}
	same(t, "A1: behind New of a list that is another one now", tells(p), tells(other))
	if !slices.Equal(lent, slices.Repeat([]api.Class{{Size: 1, Many: 1}}, 2)) {
		t.Error("A1: a list that was handed in is written into later")
	}
}

// TestA1Apart: two pools of one configuration have nothing to do with one another.
func TestA1Apart(t *testing.T) {
	c := config(2, 4, 3, 16, 2)
	p, _ := arena.New(c)
	q, _ := arena.New(c)
	was := tells(q)
	open(t, p, 100, 0)
	store(t, p, 0, take(t, p, 0, 16, 0, lease(3, 1, 16)), 0, filled(16, 9), api.OK)
	same(t, "A1: a pool beside another one", tells(q), was)
	open(t, q, 100, 0)
	load(t, q, 0, take(t, q, 0, 16, 0, lease(3, 1, 16)), 0, make([]byte, 16)...)
	closes(t, q, 0, 16, api.OK)
	load(t, p, 0, 3, 0, filled(16, 9)...)
}
