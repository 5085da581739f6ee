package sched_test

import (
	"math"
	"testing"

	"arcade/api"
	"arcade/sched"
)

// TestS3Examples: the document's.
func TestS3Examples(t *testing.T) {
	s := made(t, 2, 5, 7, 9)
	ready(t, s, 5, true, api.OK)
	ready(t, s, 9, true, api.OK)
	begin(t, s, 0, 5)
	begin(t, s, 1, 9)
	notBegun(t, s, 0, api.ErrSchedSlot)
	round(t, s, 7, 5, 9)
	ready(t, s, 7, true, api.OK)
	end(t, s, 0, 5)
	begin(t, s, 0, 7)

	s = eager(t, 2, 1)
	begin(t, s, 0, 1)
	notBegun(t, s, 1, api.ErrSchedNone)
	remove(t, s, 1, api.OK)
	end(t, s, 0, 1)
	round(t, s)

	have(t, eager(t, 1, 0, 1, 2), 0, 0, 1, 2, 0, 1, 2, 0)
}

// TestS3First: the first one that is ready goes to the end; those ahead of it stay.
func TestS3First(t *testing.T) {
	for only := range 64 {
		s := made(t, 1, run(64)...)
		ready(t, s, only, true, api.OK)
		var want []int
		for id := range 64 {
			if id != only {
				want = append(want, id)
			}
		}
		for range 3 {
			begin(t, s, 0, only)
			round(t, s, append(want, only)...)
			end(t, s, 0, only)
			round(t, s, append(want, only)...)
		}
	}
}

// TestS3SideBySide: turns on all slots, taken in any order, ended in another one; a number at work is passed over.
func TestS3SideBySide(t *testing.T) {
	s := eager(t, 4, 1, 2, 3, 4, 5)
	begin(t, s, 2, 1)
	begin(t, s, 0, 2)
	begin(t, s, 3, 3)
	begin(t, s, 1, 4)
	round(t, s, 5, 1, 2, 3, 4)
	end(t, s, 3, 3)
	begin(t, s, 3, 5)
	end(t, s, 1, 4)
	begin(t, s, 1, 3) // 1 and 2 are at work
	round(t, s, 1, 2, 4, 5, 3)
	end(t, s, 0, 2)
	end(t, s, 2, 1)
	begin(t, s, 0, 1)
	begin(t, s, 2, 2)
	round(t, s, 4, 5, 3, 1, 2)
	end(t, s, 0, 1)
	end(t, s, 2, 2)
	end(t, s, 1, 3)
	end(t, s, 3, 5)
	have(t, s, 1, 4, 5, 3, 1, 2, 4)
}

// TestS3Wrong: slots that are none, or not free, or free; ahead of all that nobody is ready.
func TestS3Wrong(t *testing.T) {
	refused := map[call]api.Errno{
		{kind: "Begin", n: 1}: api.ErrSchedSlot,
		{kind: "Begin", n: 7}: api.ErrSchedSlot,
		{kind: "End", n: 0}:   api.ErrSchedSlot,
		{kind: "End", n: 6}:   api.ErrSchedSlot,
	}
	for _, slot := range far {
		refused[call{kind: "Begin", n: slot}] = api.ErrSchedSlot
		refused[call{kind: "End", n: slot}] = api.ErrSchedSlot
	}
	makes := func() *sched.Sched {
		s := eager(t, 8, 0, 3, 1)
		begin(t, s, 7, 0)
		begin(t, s, 1, 3)
		return s
	}
	idle(t, "S3: while one is ready", makes, refused)
	refused[call{kind: "Begin", n: 0}] = api.ErrSchedNone
	refused[call{kind: "Begin", n: 6}] = api.ErrSchedNone
	idle(t, "S3: while nobody is ready", func() *sched.Sched {
		s := makes()
		ready(t, s, 1, false, api.OK)
		return s
	}, refused)
}

// TestS3None: an empty round, one in which nobody is ready, and one in which all that are have a turn that goes on.
func TestS3None(t *testing.T) {
	none := map[call]api.Errno{
		{kind: "Begin", n: 2}:           api.ErrSchedNone,
		{kind: "Begin", n: 3}:           api.ErrSchedNone,
		{kind: "Begin", n: 4}:           api.ErrSchedSlot,
		{kind: "Begin", n: -1}:          api.ErrSchedSlot,
		{kind: "Begin", n: math.MaxInt}: api.ErrSchedSlot,
	}
	idle(t, "S3: an empty round", func() *sched.Sched { return made(t, 4) }, none)
	idle(t, "S3: nobody is ready", func() *sched.Sched { return made(t, 4, run(64)...) }, none)
	working := func() *sched.Sched {
		s := made(t, 4, 0, 1, 2, 3)
		ready(t, s, 0, true, api.OK)
		ready(t, s, 2, true, api.OK)
		begin(t, s, 0, 0)
		begin(t, s, 1, 2)
		return s
	}
	idle(t, "S3: all that are ready are at work", working, none)
	s := working()
	end(t, s, 1, 2)
	begin(t, s, 3, 2)
	notBegun(t, s, 1, api.ErrSchedNone)
	end(t, s, 0, 0)
	begin(t, s, 1, 0)
}

// TestS3Zero: a number 0 that is ready is not held to be at work by slots that are free, nor by those that have been.
func TestS3Zero(t *testing.T) {
	s := eager(t, 2, 0)
	have(t, s, 0, 0, 0)
	have(t, s, 1, 0, 0)
	begin(t, s, 1, 0)
	notBegun(t, s, 0, api.ErrSchedNone)
	notEnded(t, s, 0)
	end(t, s, 1, 0)
	begin(t, s, 0, 0)
	notEnded(t, s, 1)
}

// TestS3NotReady: one that is not ready any more while its turn goes on has it to its end, and none behind it.
func TestS3NotReady(t *testing.T) {
	s := eager(t, 2, 1, 2)
	begin(t, s, 0, 1)
	ready(t, s, 1, false, api.OK)
	round(t, s, 2, 1)
	end(t, s, 0, 1)
	have(t, s, 0, 2, 2)
	ready(t, s, 1, true, api.OK)
	begin(t, s, 0, 1)
	ready(t, s, 1, false, api.OK)
	ready(t, s, 1, true, api.OK) // no turn more for that
	begin(t, s, 1, 2)
	end(t, s, 1, 2)
	begin(t, s, 1, 2)
	end(t, s, 0, 1)
	begin(t, s, 0, 1)
}

// TestS3Removed: a turn goes on without its number in the round; its slot is not free, and its end tells it.
func TestS3Removed(t *testing.T) {
	s := eager(t, 2, 1, 2)
	begin(t, s, 0, 1)
	remove(t, s, 1, api.OK)
	round(t, s, 2)
	notBegun(t, s, 0, api.ErrSchedSlot)
	begin(t, s, 1, 2)
	remove(t, s, 2, api.OK)
	round(t, s)
	notBegun(t, s, 1, api.ErrSchedSlot)
	end(t, s, 1, 2)
	end(t, s, 0, 1)
	round(t, s)
	notEnded(t, s, 0)
	notBegun(t, s, 0, api.ErrSchedNone)
}

// TestS3RemovedAndAdded: it may be in the round again, and ready, while the turn goes on that it had: till that is over it has no other one.
func TestS3RemovedAndAdded(t *testing.T) {
	s := eager(t, 3, 1, 2)
	begin(t, s, 0, 1)
	for range 2 {
		remove(t, s, 1, api.OK)
		add(t, s, 1, api.OK)
		ready(t, s, 1, true, api.OK)
	}
	round(t, s, 2, 1)
	have(t, s, 1, 2, 2)
	begin(t, s, 1, 2)
	notBegun(t, s, 2, api.ErrSchedNone)
	round(t, s, 1, 2)
	end(t, s, 0, 1)
	round(t, s, 1, 2)
	begin(t, s, 2, 1)
	notBegun(t, s, 0, api.ErrSchedNone)
	end(t, s, 2, 1)
	end(t, s, 1, 2)

	s = eager(t, 2, 1)
	begin(t, s, 1, 1)
	remove(t, s, 1, api.OK)
	add(t, s, 1, api.OK)
	end(t, s, 1, 1) // that makes nobody ready
	notBegun(t, s, 1, api.ErrSchedNone)
	ready(t, s, 1, true, api.OK)
	begin(t, s, 0, 1)
}

// TestS3AllSlots: eight turns at one time, of which each is ended by its own slot.
func TestS3AllSlots(t *testing.T) {
	for first := range 8 {
		s := eager(t, 8, run(64)...)
		for i := range 8 {
			begin(t, s, (first+3*i)%8, i)
		}
		for slot := range 8 {
			notBegun(t, s, slot, api.ErrSchedSlot)
		}
		for i := range 8 {
			end(t, s, (first+3*(7-i))%8, 7-i)
			notEnded(t, s, (first+3*(7-i))%8)
		}
		have(t, s, first, 8, 9, 10)
	}
}
