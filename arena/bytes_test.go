package arena_test

import (
	"math"
	"testing"

	"arcade/api"
)

// TestA5Bytes: what was stored is loaded, there and nowhere else; what lies over it takes its place.
func TestA5Bytes(t *testing.T) {
	p := small(t, 100)
	b := take(t, p, 0, 16, 0, lease(3, 1, 16))
	other := take(t, p, 0, 16, 0, lease(4, 1, 16))
	load(t, p, 0, b, 0, make([]byte, 16)...)
	store(t, p, 0, b, 2, []byte{1, 2, 3, 4, 5}, api.OK)
	load(t, p, 0, b, 0, 0, 0, 1, 2, 3, 4, 5, 0, 0)
	store(t, p, 0, b, 5, []byte{255, 0, 128}, api.OK)
	store(t, p, 0, b, 0, []byte{9}, api.OK)
	store(t, p, 0, b, 15, []byte{10}, api.OK)
	load(t, p, 0, b, 0, 9, 0, 1, 2, 3, 255, 0, 128, 0, 0, 0, 0, 0, 0, 0, 10)
	load(t, p, 0, b, 4, 3, 255, 0)
	load(t, p, 0, b, 15, 10)
	load(t, p, 0, other, 0, make([]byte, 16)...)
	store(t, p, 0, b, 0, filled(16, 77), api.OK)
	load(t, p, 0, b, 0, filled(16, 77)...)
}

// TestA5Whole: all of a buffer may be used, whatever was asked for.
func TestA5Whole(t *testing.T) {
	p := made(t, 1, 4, 1, 65536, 1)
	open(t, p, 70000, 0)
	take(t, p, 0, 1, 0, lease(0, 0, 4))
	take(t, p, 0, 5, 0, lease(1, 1, 65536))
	all := make([]byte, 65536)
	for i := range all {
		all[i] = byte(i*7 + i>>8)
	}
	store(t, p, 0, 0, 0, all[1:5], api.OK)
	store(t, p, 0, 1, 0, all, api.OK)
	load(t, p, 0, 0, 0, all[1:5]...)
	load(t, p, 0, 1, 0, all...)
	load(t, p, 0, 1, 65535, all[65535])
	store(t, p, 0, 0, 0, all[:5], api.ErrArenaSpan)
	store(t, p, 0, 1, 0, make([]byte, 65537), api.ErrArenaSpan)
	load(t, p, 0, 0, 0, all[1:5]...)
	load(t, p, 0, 1, 0, all...)
}

// TestA5Spans: spans of no bytes, to a buffer's end, and one byte beyond.
func TestA5Spans(t *testing.T) {
	p := small(t, 100)
	b := take(t, p, 0, 16, 1, lease(4, 1, 16))
	for at := -3; at <= 20; at++ {
		for n := -3; n <= 20; n++ {
			if at < 0 || n < 0 || at+n > 16 {
				notLoaded(t, p, 0, b, at, n, api.ErrArenaSpan)
			} else {
				load(t, p, 0, b, at, make([]byte, n)...)
			}
		}
	}
	for at := -3; at <= 20; at++ {
		for n := range 20 {
			piece := filled(n, byte(at+n))
			if at < 0 || at+n > 16 {
				was := tells(p)
				store(t, p, 0, b, at, piece, api.ErrArenaSpan)
				same(t, "A5: behind a Store that was refused", tells(p), was)
			} else {
				store(t, p, 0, b, at, piece, api.OK)
				load(t, p, 0, b, at, piece...)
			}
		}
	}
	store(t, p, 0, b, 16, nil, api.OK)
	store(t, p, 0, b, 17, nil, api.ErrArenaSpan)
	store(t, p, 0, b, -1, nil, api.ErrArenaSpan)
}

// TestA5Far: numbers whose sum is too great for an int, or comes back among those that may be.
func TestA5Far(t *testing.T) {
	p := small(t, 100)
	b := take(t, p, 0, 16, 0, lease(3, 1, 16))
	store(t, p, 0, b, 0, filled(16, 5), api.OK)
	for _, x := range far {
		notLoaded(t, p, 0, b, x, 0, api.ErrArenaSpan)
		notLoaded(t, p, 0, b, x, 1, api.ErrArenaSpan)
		notLoaded(t, p, 0, b, 0, x, api.ErrArenaSpan)
		notLoaded(t, p, 0, b, 1, x, api.ErrArenaSpan)
		notLoaded(t, p, 0, b, 16, x, api.ErrArenaSpan)
		for _, y := range far {
			notLoaded(t, p, 0, b, x, y, api.ErrArenaSpan)
		}
		store(t, p, 0, b, x, nil, api.ErrArenaSpan)
		store(t, p, 0, b, x, []byte{1, 2}, api.ErrArenaSpan)
	}
	notLoaded(t, p, 0, b, math.MinInt, math.MinInt, api.ErrArenaSpan)
	notLoaded(t, p, 0, b, math.MaxInt, math.MaxInt, api.ErrArenaSpan)
	notLoaded(t, p, 0, b, -4, 8, api.ErrArenaSpan)
	notLoaded(t, p, 0, b, 8, -4, api.ErrArenaSpan)
	load(t, p, 0, b, 0, filled(16, 5)...)
}

// TestA5Wrong: arenas that are not open, then buffers that are another one's, free, or none, then spans.
func TestA5Wrong(t *testing.T) {
	p := made(t, 3, 4, 3, 16, 2)
	open(t, p, 100, 0)
	open(t, p, 100, 1)
	take(t, p, 0, 4, 1, lease(1, 0, 4))
	take(t, p, 1, 16, 1, lease(4, 1, 16))
	store(t, p, 1, 4, 0, filled(16, 6), api.OK)
	was := tells(p)
	for _, id := range append([]int{2, 3, 64}, far...) {
		for _, buffer := range append([]int{0, 1, 4, 5}, far...) {
			notLoaded(t, p, id, buffer, 0, 1, api.ErrArenaNone)
			notLoaded(t, p, id, buffer, -1, -1, api.ErrArenaNone)
			store(t, p, id, buffer, 0, []byte{1}, api.ErrArenaNone)
			store(t, p, id, buffer, -1, nil, api.ErrArenaNone)
		}
	}
	for _, buffer := range append([]int{0, 2, 3, 4, 5, 6}, far...) {
		notLoaded(t, p, 0, buffer, 0, 1, api.ErrArenaBuffer)
		notLoaded(t, p, 0, buffer, 0, 0, api.ErrArenaBuffer)
		notLoaded(t, p, 0, buffer, 17, 1, api.ErrArenaBuffer)
		store(t, p, 0, buffer, 0, []byte{1}, api.ErrArenaBuffer)
		store(t, p, 0, buffer, -1, make([]byte, 100), api.ErrArenaBuffer)
	}
	same(t, "A5: behind what was refused", tells(p), was)
}

// TestA5Lists: what is stored is copied, and what is loaded is a copy, its spare room too.
func TestA5Lists(t *testing.T) {
	p := small(t, 100)
	b := take(t, p, 0, 16, 0, lease(3, 1, 16))
	was := []byte{1, 2, 3, 4}
	lent := roomy(was, 0xa5)
	store(t, p, 0, b, 2, lent, api.OK)
	if !spared(lent, was, 0xa5) {
		t.Error("A5: Store has written into what was handed in")
	}
	load(t, p, 0, b, 0, 0, 0, 1, 2, 3, 4, 0, 0)
	scratch(lent, 0xee)
	load(t, p, 0, b, 0, 0, 0, 1, 2, 3, 4, 0, 0)
	for _, n := range []int{0, 1, 4, 14} {
		first, _ := p.Load(0, b, 2, n)
		second, _ := p.Load(0, b, 2, n)
		scratch(first, 0xdd)
		load(t, p, 0, b, 0, 0, 0, 1, 2, 3, 4, 0, 0, 0, 0, 0, 0, 0, 0, 0, 0)
		for i, x := range second {
			if x == 0xdd {
				t.Errorf("A5: two lists that were loaded share byte %d", i)
			}
		}
		store(t, p, 0, b, 2, filled(4, 8), api.OK)
		for i, x := range second {
			if i < 4 && x != byte(i+1) {
				t.Errorf("A5: what was loaded hangs on what is stored later")
			}
		}
		store(t, p, 0, b, 2, was, api.OK)
	}
	store(t, p, 0, b, 0, lent, api.OK)
	lent[0] = 1
	load(t, p, 0, b, 0, 0xee, 0xee)
}
