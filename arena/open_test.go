package arena_test

import (
	"math"
	"testing"

	"arcade/api"
)

// TestA2Numbers: an arena has the least number that is free, also behind some that were closed.
func TestA2Numbers(t *testing.T) {
	p := made(t, 5, 4, 3, 16, 2)
	for id := range 5 {
		open(t, p, 10*id, id)
	}
	closes(t, p, 3, 0, api.OK)
	closes(t, p, 1, 0, api.OK)
	open(t, p, 0, 1)
	open(t, p, 0, 3)
	notOpened(t, p, 0, api.ErrArenaMany)
	for id := range 5 {
		closes(t, p, id, 0, api.OK)
	}
	open(t, p, 0, 0)
	closes(t, p, 0, 0, api.OK)
	open(t, p, 0, 0)
	open(t, p, 0, 1)
	closes(t, p, 0, 0, api.OK)
	open(t, p, 0, 0)
	open(t, p, 0, 2)
}

// TestA2Many: as many as there may be, and one more.
func TestA2Many(t *testing.T) {
	for _, many := range []int{1, 2, 63, 64} {
		p := made(t, many, 4, 3)
		for id := range many {
			open(t, p, 4, id)
		}
		was := tells(p)
		for range 3 {
			notOpened(t, p, 4, api.ErrArenaMany)
			notOpened(t, p, math.MaxInt, api.ErrArenaMany)
		}
		same(t, "A2: behind an Open that was refused", tells(p), was)
		closes(t, p, many-1, 0, api.OK)
		open(t, p, 0, many-1)
		notOpened(t, p, 0, api.ErrArenaMany)
	}
}

// TestA2Quota: a quota below 0 is refused, and ahead of that there are too many; 0 and the greatest one are taken.
func TestA2Quota(t *testing.T) {
	p := small(t)
	for _, quota := range far {
		if quota < 0 {
			notOpened(t, p, quota, api.ErrArenaQuota)
		}
	}
	open(t, p, 0, 0)
	notOpened(t, p, -1, api.ErrArenaQuota)
	open(t, p, math.MaxInt, 1)
	notOpened(t, p, -1, api.ErrArenaQuota)
	notOpened(t, p, math.MinInt, api.ErrArenaQuota)
	notOpened(t, p, 0, api.ErrArenaMany)
	notTaken(t, p, 0, 1, 0, api.ErrArenaQuota)
	take(t, p, 1, 1, 0, lease(0, 0, 4))
	take(t, p, 1, 16, 0, lease(3, 1, 16))
}

// TestA2Empty: a new arena has no buffers, whatever the one of its number had; and its quota is its own.
func TestA2Empty(t *testing.T) {
	p := small(t, 100, 4)
	take(t, p, 0, 4, 0, lease(0, 0, 4))
	store(t, p, 0, take(t, p, 0, 16, 0, lease(3, 1, 16)), 0, filled(16, 7), api.OK)
	closes(t, p, 0, 20, api.OK)
	open(t, p, 20, 0)
	used(t, p, 0, 0, api.OK)
	leases(t, p, 0)
	give(t, p, 0, 0, api.ErrArenaBuffer)
	notLoaded(t, p, 0, 3, 0, 1, api.ErrArenaBuffer)
	store(t, p, 0, 3, 0, []byte{1}, api.ErrArenaBuffer)
	take(t, p, 0, 16, 0, lease(3, 1, 16))
	notTaken(t, p, 0, 16, 0, api.ErrArenaQuota)
	take(t, p, 0, 4, 0, lease(0, 0, 4))
	notTaken(t, p, 0, 4, 0, api.ErrArenaQuota)
	take(t, p, 1, 4, 0, lease(1, 0, 4))
	notTaken(t, p, 1, 4, 0, api.ErrArenaQuota)
}
