package arena_test

import (
	"math"
	"testing"

	"arcade/api"
)

// TestA3Sizes: the class is the first one that has room, at its own size and one more.
func TestA3Sizes(t *testing.T) {
	for _, x := range []struct {
		size int
		want api.Lease
	}{
		{1, lease(0, 0, 4)}, {3, lease(0, 0, 4)}, {4, lease(0, 0, 4)},
		{5, lease(3, 1, 16)}, {15, lease(3, 1, 16)}, {16, lease(3, 1, 16)},
		{17, lease(5, 2, 17)},
		{18, lease(6, 3, 65536)}, {65535, lease(6, 3, 65536)}, {65536, lease(6, 3, 65536)},
	} {
		p := made(t, 1, 4, 3, 16, 2, 17, 1, 65536, 1)
		open(t, p, 100000, 0)
		take(t, p, 0, x.size, 0, x.want)
		leases(t, p, 0, x.want)
		used(t, p, 0, x.want.Size, api.OK)
	}
	for _, size := range append([]int{0, 65537}, far...) {
		p := made(t, 1, 4, 3, 16, 2, 17, 1, 65536, 1)
		open(t, p, math.MaxInt, 0)
		notTaken(t, p, 0, size, 0, api.ErrArenaSize)
	}
	p := small(t, 100)
	notTaken(t, p, 0, 17, 0, api.ErrArenaSize)
	notTaken(t, p, 0, 65536, 0, api.ErrArenaSize)
}

// TestA3Picks: which of the free ones a pick means, by rising numbers.
func TestA3Picks(t *testing.T) {
	for _, x := range []struct{ pick, want int }{
		{0, 2}, {1, 3}, {2, 4}, {3, 5}, {4, 6}, {5, 2}, {6, 3}, {14, 6}, {1000, 2}, {1003, 5},
		{-1, 2}, {-2, 3}, {-3, 4}, {-4, 5}, {-5, 6}, {-6, 2}, {-7, 3}, {-1001, 2}, {-1004, 5},
		{math.MaxInt, 4}, {math.MaxInt - 1, 3}, {math.MaxInt - 2, 2}, {math.MaxInt - 3, 6},
		{math.MinInt, 4}, {math.MinInt + 1, 3}, {math.MinInt + 2, 2}, {math.MinInt + 3, 6},
		{math.MaxInt32, 4}, {math.MinInt32, 4}, {1 << 32, 3},
	} {
		p := made(t, 1, 4, 2, 16, 5, 17, 4)
		open(t, p, 1000, 0)
		take(t, p, 0, 16, x.pick, lease(x.want, 1, 16))
	}
}

// TestA3Rising: the free ones are counted by rising numbers, in whatever order they were given back.
func TestA3Rising(t *testing.T) {
	for _, order := range [][]int{{0, 1, 2, 3, 4}, {4, 3, 2, 1, 0}, {2, 0, 4, 1, 3}, {3, 4, 0, 2, 1}} {
		for pick := range 5 {
			p := made(t, 1, 8, 5)
			open(t, p, 100, 0)
			for range 5 {
				p.Take(0, 8, pick)
			}
			free(t, p, 0)
			for _, buffer := range order {
				give(t, p, 0, buffer, api.OK)
			}
			take(t, p, 0, 8, pick, lease(pick, 0, 8))
		}
	}
	p := made(t, 1, 8, 5)
	open(t, p, 100, 0)
	take(t, p, 0, 8, 1, lease(1, 0, 8))
	take(t, p, 0, 8, 1, lease(2, 0, 8)) // of 0 2 3 4
	take(t, p, 0, 8, 5, lease(4, 0, 8)) // of 0 3 4
	take(t, p, 0, 8, 3, lease(3, 0, 8)) // of 0 3
	take(t, p, 0, 8, 9, lease(0, 0, 8)) // of 0
}

// TestA3Quota: a quota that is full to the byte, and one byte short; the class's size counts, not what is asked for.
func TestA3Quota(t *testing.T) {
	p := small(t, 28, 15)
	take(t, p, 0, 1, 0, lease(0, 0, 4))
	take(t, p, 0, 16, 0, lease(3, 1, 16))
	notTaken(t, p, 0, 5, 0, api.ErrArenaQuota)
	take(t, p, 0, 2, 0, lease(1, 0, 4))
	used(t, p, 0, 24, api.OK)
	notTaken(t, p, 0, 5, 0, api.ErrArenaQuota)
	take(t, p, 0, 4, 0, lease(2, 0, 4))
	used(t, p, 0, 28, api.OK)
	notTaken(t, p, 1, 5, 0, api.ErrArenaQuota)
	give(t, p, 0, 0, api.OK)
	notTaken(t, p, 0, 5, 0, api.ErrArenaQuota)
	take(t, p, 0, 1, 0, lease(0, 0, 4))

	for _, x := range []struct {
		quota int
		want  api.Errno
	}{{3, api.ErrArenaQuota}, {4, api.OK}, {5, api.OK}} {
		p := small(t, x.quota)
		if _, e := p.Take(0, 1, 0); e != x.want {
			t.Errorf("A3: Take with a quota of %d = %d, want %d", x.quota, e, x.want)
		}
		notTaken(t, p, 0, 1, 0, api.ErrArenaQuota)
	}
}

// TestA3Pool: one arena may have the whole pool, and not a buffer more.
func TestA3Pool(t *testing.T) {
	p := made(t, 2, 32768, 256, 65536, 128)
	open(t, p, api.MaxPool, 0)
	open(t, p, math.MaxInt, 1)
	for i := range 256 {
		take(t, p, 0, 1, 0, lease(i, 0, 32768))
	}
	for i := range 128 {
		take(t, p, 0, 65536, 0, lease(256+i, 1, 65536))
	}
	used(t, p, 0, api.MaxPool, api.OK)
	notTaken(t, p, 0, 1, 0, api.ErrArenaQuota)
	notTaken(t, p, 1, 1, 0, api.ErrArenaEmpty)
	notTaken(t, p, 1, 65536, 0, api.ErrArenaEmpty)
	closes(t, p, 0, api.MaxPool, api.OK)
	free(t, p, 0, run(0, 255)...)
	free(t, p, 1, run(256, 383)...)
	take(t, p, 1, 65536, -1, lease(256, 1, 65536))
}

// TestA3Empty: none of the class is free: no greater one is taken in its place, and a class may have none from the first on.
func TestA3Empty(t *testing.T) {
	p := made(t, 2, 4, 0, 16, 2, 32, 0, 64, 1)
	open(t, p, 1000, 0)
	open(t, p, 1000, 1)
	for _, pick := range []int{0, 1, -1, math.MinInt, math.MaxInt} {
		notTaken(t, p, 0, 4, pick, api.ErrArenaEmpty)
		notTaken(t, p, 0, 17, pick, api.ErrArenaEmpty)
	}
	take(t, p, 0, 5, 1, lease(1, 1, 16))
	take(t, p, 1, 5, 1, lease(0, 1, 16))
	notTaken(t, p, 0, 5, 0, api.ErrArenaEmpty)
	take(t, p, 0, 33, 0, lease(2, 3, 64))
	notTaken(t, p, 1, 33, 0, api.ErrArenaEmpty)
	give(t, p, 0, 2, api.OK)
	take(t, p, 1, 64, 7, lease(2, 3, 64))
}

// TestA3First: of several errors the first one is told, and nothing is changed.
func TestA3First(t *testing.T) {
	p := made(t, 3, 4, 1, 16, 0)
	open(t, p, 4, 0)
	open(t, p, 10, 1)
	take(t, p, 0, 1, 0, lease(0, 0, 4))
	store(t, p, 0, 0, 0, []byte{1, 2, 3, 4}, api.OK)
	was := tells(p)
	for _, id := range append([]int{2, 3, 63, 64}, far...) {
		notTaken(t, p, id, 1, 0, api.ErrArenaNone)
		notTaken(t, p, id, 0, 0, api.ErrArenaNone)
		notTaken(t, p, id, 17, 0, api.ErrArenaNone)
	}
	notTaken(t, p, 0, 0, 0, api.ErrArenaSize)
	notTaken(t, p, 0, 17, 0, api.ErrArenaSize)
	notTaken(t, p, 0, 1, 0, api.ErrArenaQuota)
	notTaken(t, p, 0, 16, 0, api.ErrArenaQuota)
	notTaken(t, p, 1, 16, 0, api.ErrArenaQuota)
	notTaken(t, p, 1, 1, 0, api.ErrArenaEmpty)
	same(t, "A3: behind what was refused", tells(p), was)
}

// TestA3Zeros: a buffer that was another one's, or the same one's, is all 0 when it is taken, given back or closed over.
func TestA3Zeros(t *testing.T) {
	for _, back := range []string{"given", "closed"} {
		for _, next := range []int{0, 1} {
			p := made(t, 2, 4, 1, 65536, 1)
			open(t, p, 100000, 0)
			open(t, p, 100000, 1)
			store(t, p, 0, take(t, p, 0, 4, 0, lease(0, 0, 4)), 0, filled(4, 255), api.OK)
			store(t, p, 0, take(t, p, 0, 65536, 0, lease(1, 1, 65536)), 0, filled(65536, 255), api.OK)
			if back == "given" {
				give(t, p, 0, 0, api.OK)
				give(t, p, 0, 1, api.OK)
			} else {
				closes(t, p, 0, 65540, api.OK)
				open(t, p, 100000, 0)
			}
			load(t, p, next, take(t, p, next, 1, 0, lease(0, 0, 4)), 0, 0, 0, 0, 0)
			load(t, p, next, take(t, p, next, 5, 0, lease(1, 1, 65536)), 0, make([]byte, 65536)...)
		}
	}
}

// TestA3Alone: taking one leaves the bytes of all others as they are.
func TestA3Alone(t *testing.T) {
	p := made(t, 2, 4, 4, 16, 4)
	open(t, p, 1000, 0)
	open(t, p, 1000, 1)
	for i := range 4 {
		buffer := take(t, p, i%2, 16, 0, lease(4+i, 1, 16))
		store(t, p, i%2, buffer, 0, filled(16, byte(10+i)), api.OK)
		small := take(t, p, i%2, 4, 0, lease(i, 0, 4))
		store(t, p, i%2, small, 0, filled(4, byte(20+i)), api.OK)
	}
	give(t, p, 0, 4, api.OK)
	take(t, p, 1, 16, 0, lease(4, 1, 16))
	for i := range 4 {
		load(t, p, i%2, i, 0, filled(4, byte(20+i))...)
		if i > 0 {
			load(t, p, i%2, 4+i, 0, filled(16, byte(10+i))...)
		}
	}
	load(t, p, 1, 4, 0, make([]byte, 16)...)
}

// TestA3Example: the document's.
func TestA3Example(t *testing.T) {
	p := made(t, 2, 4, 3, 16, 2)
	open(t, p, 28, 0)
	take(t, p, 0, 4, 4, lease(1, 0, 4))
	take(t, p, 0, 5, -2, lease(4, 1, 16))
	notTaken(t, p, 0, 16, 0, api.ErrArenaQuota)
	free(t, p, 0, 0, 2)
	used(t, p, 0, 20, api.OK)
	closes(t, p, 0, 20, api.OK)
	free(t, p, 0, 0, 1, 2)
}
