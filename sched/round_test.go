package sched_test

import (
	"math"
	"slices"
	"testing"

	"arcade/api"
	"arcade/sched"
)

// TestS2Add: a number comes to the end, whichever it is, and is not ready; 0 is one as the others.
func TestS2Add(t *testing.T) {
	s := made(t, 2)
	for i, id := range []int{7, 0, math.MaxInt, 1, 1 << 32, 64, 3} {
		add(t, s, id, api.OK)
		round(t, s, []int{7, 0, math.MaxInt, 1, 1 << 32, 64, 3}[:i+1]...)
		notBegun(t, s, 0, api.ErrSchedNone)
	}
	ready(t, s, 0, true, api.OK)
	ready(t, s, 1<<32, true, api.OK)
	begin(t, s, 0, 0)
	begin(t, s, 1, 1<<32)
	round(t, s, 7, math.MaxInt, 1, 64, 3, 0, 1<<32)
	add(t, s, 2, api.OK)
	round(t, s, 7, math.MaxInt, 1, 64, 3, 0, 1<<32, 2)
}

// TestS2AddRefused: numbers below 0, and those that are in the round: wherever they stand, ready or not, and while their turns go on.
func TestS2AddRefused(t *testing.T) {
	makes := func() *sched.Sched {
		s := made(t, 2, 0, 5, 6, 7)
		ready(t, s, 5, true, api.OK)
		begin(t, s, 1, 5)
		ready(t, s, 6, true, api.OK)
		return s
	}
	refused := map[call]api.Errno{}
	for _, id := range far {
		if id < 0 {
			refused[call{kind: "Add", n: id}] = api.ErrArg
		}
	}
	for _, id := range []int{0, 5, 6, 7} {
		refused[call{kind: "Add", n: id}] = api.ErrSchedId
	}
	idle(t, "S2: behind an Add that was refused", makes, refused)
}

// TestS2Full: 64 may be in the round, one more not; and what is wrong besides is told ahead of that.
func TestS2Full(t *testing.T) {
	makes := func() *sched.Sched {
		s := made(t, 3, run(64)...)
		for _, id := range []int{0, 9, 31, 63} {
			ready(t, s, id, true, api.OK)
		}
		begin(t, s, 2, 0)
		return s
	}
	idle(t, "S2: in a full round", makes, map[call]api.Errno{
		{kind: "Add", n: 64}:            api.ErrSchedFull,
		{kind: "Add", n: 65}:            api.ErrSchedFull,
		{kind: "Add", n: math.MaxInt}:   api.ErrSchedFull,
		{kind: "Add", n: 0}:             api.ErrSchedId,
		{kind: "Add", n: 1}:             api.ErrSchedId,
		{kind: "Add", n: 63}:            api.ErrSchedId,
		{kind: "Add", n: -1}:            api.ErrArg,
		{kind: "Add", n: math.MinInt}:   api.ErrArg,
		{kind: "Remove", n: 64}:         api.ErrSchedId,
		{kind: "Ready", n: 64}:          api.ErrSchedId,
		{kind: "Remove", n: -1}:         api.ErrSchedId,
		{kind: "Ready", n: math.MinInt}: api.ErrSchedId,
	})
	s := makes()
	round(t, s, append(run(64)[1:], 0)...)
	remove(t, s, 0, api.OK) // its turn, that goes on, takes no place in the round
	add(t, s, 64, api.OK)
	add(t, s, 0, api.ErrSchedFull)
	remove(t, s, 30, api.OK)
	add(t, s, 0, api.OK)
	add(t, s, 30, api.ErrSchedFull)
	have(t, s, 0, 9, 31, 63, 9)
}

// TestS2FullByTurns: a round that is full has them all still when all have had turns.
func TestS2FullByTurns(t *testing.T) {
	s := eager(t, 8, run(64)...)
	for i := range 640 {
		begin(t, s, i%8, i%64)
		end(t, s, i%8, i%64)
		add(t, s, 64, api.ErrSchedFull)
	}
	round(t, s, run(64)...)
}

// TestS2Remove: from the front, the midst and the end; the others stay in their order, and as ready as they were.
func TestS2Remove(t *testing.T) {
	for at := range 5 {
		s := made(t, 1, 10, 11, 12, 13, 14)
		for _, id := range []int{10, 12, 13} {
			ready(t, s, id, true, api.OK)
		}
		remove(t, s, 10+at, api.OK)
		left := slices.Delete([]int{10, 11, 12, 13, 14}, at, at+1)
		round(t, s, left...)
		remove(t, s, 10+at, api.ErrSchedId)
		ready(t, s, 10+at, true, api.ErrSchedId)
		round(t, s, left...)
		var want []int
		for _, id := range []int{10, 12, 13} {
			if id != 10+at {
				want = append(want, id)
			}
		}
		have(t, s, 0, append(want, want...)...)
	}
}

// TestS2Again: a number that is removed and added again is at the end, and not ready.
func TestS2Again(t *testing.T) {
	s := eager(t, 1, 1, 2, 3)
	remove(t, s, 1, api.OK)
	add(t, s, 1, api.OK)
	round(t, s, 2, 3, 1)
	have(t, s, 0, 2, 3, 2, 3)
	round(t, s, 1, 2, 3)
	ready(t, s, 1, true, api.OK)
	have(t, s, 0, 1, 2, 3, 1)
	for _, id := range []int{1, 2, 3} {
		remove(t, s, id, api.OK)
	}
	round(t, s)
	notBegun(t, s, 0, api.ErrSchedNone)
	add(t, s, 2, api.OK)
	notBegun(t, s, 0, api.ErrSchedNone)
	round(t, s, 2)
}

// TestS2Ready: what is ready, or is not, may be so anew; nobody changes places by that.
func TestS2Ready(t *testing.T) {
	s := made(t, 1, 4, 5, 6)
	for range 3 {
		ready(t, s, 5, false, api.OK)
		notBegun(t, s, 0, api.ErrSchedNone)
	}
	for range 3 {
		ready(t, s, 5, true, api.OK)
		ready(t, s, 6, true, api.OK)
		round(t, s, 4, 5, 6)
	}
	have(t, s, 0, 5, 6, 5)
	ready(t, s, 5, false, api.OK) // once is enough, however often it was made ready
	have(t, s, 0, 6, 6)
	ready(t, s, 6, false, api.OK)
	ready(t, s, 6, false, api.OK)
	notBegun(t, s, 0, api.ErrSchedNone)
	ready(t, s, 6, true, api.OK) // and the same for what is not
	have(t, s, 0, 6)
	round(t, s, 4, 5, 6)
	ready(t, s, 4, true, api.OK)
	have(t, s, 0, 4, 6, 4)
	round(t, s, 5, 6, 4)
}

// TestS2Unknown: numbers that are not in the round are neither removed nor made ready, those below 0 too.
func TestS2Unknown(t *testing.T) {
	refused := map[call]api.Errno{}
	for _, id := range append([]int{0, 3, 5, 7}, far...) {
		refused[call{kind: "Remove", n: id}] = api.ErrSchedId
		refused[call{kind: "Ready", n: id, ready: true}] = api.ErrSchedId
		refused[call{kind: "Ready", n: id}] = api.ErrSchedId
	}
	idle(t, "S2: a number that is not there", func() *sched.Sched {
		s := eager(t, 2, 3, 4, 6)
		begin(t, s, 0, 3)
		remove(t, s, 3, api.OK) // not in the round, though its turn goes on
		return s
	}, refused)
	idle(t, "S2: nobody is there", func() *sched.Sched { return made(t, 8) }, refused)
}

// TestS4Order: the order is that of Adds and Begins alone.
func TestS4Order(t *testing.T) {
	s := made(t, 3)
	round(t, s)
	for _, id := range []int{30, 10, 20, 0} {
		add(t, s, id, api.OK)
	}
	round(t, s, 30, 10, 20, 0)
	ready(t, s, 20, true, api.OK)
	ready(t, s, 10, true, api.OK)
	round(t, s, 30, 10, 20, 0)
	begin(t, s, 2, 10)
	round(t, s, 30, 20, 0, 10)
	begin(t, s, 0, 20)
	round(t, s, 30, 0, 10, 20)
	end(t, s, 0, 20)
	end(t, s, 2, 10)
	round(t, s, 30, 0, 10, 20)
	remove(t, s, 0, api.OK)
	round(t, s, 30, 10, 20)
	add(t, s, 0, api.OK)
	round(t, s, 30, 10, 20, 0)
}

// TestS4Lists: a list that was told is the caller's, its spare room too; it hangs on nothing that is done later.
func TestS4Lists(t *testing.T) {
	for many := range 65 {
		s := eager(t, 2, run(many)...)
		if many > 2 { // so that there is room behind the last one
			remove(t, s, 2, api.OK)
		}
		want := s.Round()
		first, second, third := s.Round(), s.Round(), s.Round()
		scratch(first)
		longer := append(second, 888, 889)
		round(t, s, want...)
		if many > 0 {
			have(t, s, 1, 0)
			remove(t, s, 0, api.OK)
			add(t, s, 999, api.OK)
			round(t, s, append(want[1:len(want):len(want)], 999)...)
		}
		if !slices.Equal(third, want) || !slices.Equal(longer[:len(want)], want) || longer[len(want)] != 888 || longer[len(want)+1] != 889 {
			t.Errorf("S4: of %d: lists that were told are %v and %v, want %v", many, third, longer, want)
		}
		for _, x := range first {
			if x != 777 {
				t.Errorf("S4: a list that was told is written to: %v", first)
			}
		}
	}
}

// TestS4Looks: to ask for the round changes nothing.
func TestS4Looks(t *testing.T) {
	makes := func() *sched.Sched {
		s := eager(t, 3, 3, 1, 2)
		add(t, s, 0, api.OK)
		begin(t, s, 1, 3)
		return s
	}
	s := makes()
	for range 5 {
		scratch(s.Round())
	}
	same(t, "S4: one that is looked at", drains(s), drains(makes()))
}
