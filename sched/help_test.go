package sched_test

import (
	"math"
	"slices"
	"testing"

	"arcade/api"
	"arcade/sched"
)

// far are numbers that are beyond the bounds of slots.
var far = []int{math.MinInt, math.MinInt + 1, math.MinInt32, -65536, -64, -8, -2, -1, 8, 9, 64, 256, 1 << 32, 1<<40 + 1, math.MaxInt32, math.MaxInt - 1, math.MaxInt}

// turns is what both a sched and its model do.
type turns interface {
	Add(id int) api.Errno
	Remove(id int) api.Errno
	Ready(id int, ready bool) api.Errno
	Begin(slot int) (int, api.Errno)
	End(slot int) (int, api.Errno)
	Round() []int
}

// made is one with so many slots, in whose round these stand, none of them ready.
func made(t *testing.T, slots int, ids ...int) *sched.Sched {
	t.Helper()
	s, e := sched.New(slots)
	if s == nil || e != api.OK {
		t.Fatalf("S1: New(%d) = %v, %d", slots, s != nil, e)
	}
	for _, id := range ids {
		add(t, s, id, api.OK)
	}
	return s
}

// eager is one in which all are ready.
func eager(t *testing.T, slots int, ids ...int) *sched.Sched {
	t.Helper()
	s := made(t, slots, ids...)
	for _, id := range ids {
		ready(t, s, id, true, api.OK)
	}
	return s
}

func add(t *testing.T, s turns, id int, want api.Errno) {
	t.Helper()
	if e := s.Add(id); e != want {
		t.Errorf("S2: Add(%d) = %d, want %d", id, e, want)
	}
}

func remove(t *testing.T, s turns, id int, want api.Errno) {
	t.Helper()
	if e := s.Remove(id); e != want {
		t.Errorf("S2: Remove(%d) = %d, want %d", id, e, want)
	}
}

func ready(t *testing.T, s turns, id int, is bool, want api.Errno) {
	t.Helper()
	if e := s.Ready(id, is); e != want {
		t.Errorf("S2: Ready(%d, %v) = %d, want %d", id, is, e, want)
	}
}

func begin(t *testing.T, s turns, slot, want int) {
	t.Helper()
	if id, e := s.Begin(slot); id != want || e != api.OK {
		t.Errorf("S3: Begin(%d) = %d, %d, want %d", slot, id, e, want)
	}
}

func notBegun(t *testing.T, s turns, slot int, want api.Errno) {
	t.Helper()
	if id, e := s.Begin(slot); id != 0 || e != want {
		t.Errorf("S3: Begin(%d) = %d, %d, want 0, %d", slot, id, e, want)
	}
}

func end(t *testing.T, s turns, slot, want int) {
	t.Helper()
	if id, e := s.End(slot); id != want || e != api.OK {
		t.Errorf("S3: End(%d) = %d, %d, want %d", slot, id, e, want)
	}
}

func notEnded(t *testing.T, s turns, slot int) {
	t.Helper()
	if id, e := s.End(slot); id != 0 || e != api.ErrSchedSlot {
		t.Errorf("S3: End(%d) = %d, %d, want 0, %d", slot, id, e, api.ErrSchedSlot)
	}
}

func round(t *testing.T, s turns, want ...int) {
	t.Helper()
	if l := s.Round(); !slices.Equal(l, want) {
		t.Errorf("S4: Round() = %v, want %v", l, want)
	}
}

// have lets turns go by on a slot, each of them ended ahead of the next one, and holds whose they are.
func have(t *testing.T, s turns, slot int, want ...int) {
	t.Helper()
	for _, id := range want {
		begin(t, s, slot, id)
		end(t, s, slot, id)
	}
}

// run is so many numbers, from 0 on.
func run(many int) []int {
	var list []int
	for i := range many {
		list = append(list, i)
	}
	return list
}

// scratch writes over a list and its spare room.
func scratch(list []int) {
	whole := list[:cap(list)]
	for i := range whole {
		whole[i] = 777
	}
}

// told is all that can be found out of a sched: what it is at does not show but by calls that change it.
type told struct {
	round, after []int
	working      [api.MaxSlots]int // whose turn goes on; -1: the slot is free, -2: there is none such
	ready        []int             // in the order in which they have turns
}

// drains finds all out, and leaves the sched without turns.
func drains(s turns) told {
	all := told{round: s.Round()}
	for slot := range all.working {
		if id, e := s.End(slot); e == api.OK {
			all.working[slot] = id
		} else if _, e := s.Begin(slot); e == api.ErrSchedSlot {
			all.working[slot] = -2
		} else {
			all.working[slot] = -1
			s.End(slot)
		}
	}
	for range all.round {
		id, e := s.Begin(0)
		if e != api.OK || slices.Contains(all.ready, id) {
			s.End(0)
			break
		}
		all.ready = append(all.ready, id)
		s.End(0)
	}
	all.after = s.Round()
	return all
}

// same holds against each other what was found out of two.
func same(t *testing.T, which string, got, want told) {
	t.Helper()
	if !slices.Equal(got.round, want.round) || !slices.Equal(got.after, want.after) || got.working != want.working || !slices.Equal(got.ready, want.ready) {
		t.Errorf("%s: it is %v, want %v", which, got, want)
	}
}

// call is one of the calls, with what it is given.
type call struct {
	kind  string
	n     int // a number, or a slot
	ready bool
}

// does does a call, and tells what it answered.
func does(s turns, c call) (int, api.Errno) {
	switch c.kind {
	case "Add":
		return 0, s.Add(c.n)
	case "Remove":
		return 0, s.Remove(c.n)
	case "Ready":
		return 0, s.Ready(c.n, c.ready)
	case "Begin":
		return s.Begin(c.n)
	case "End":
		return s.End(c.n)
	}
	s.Round()
	return 0, api.OK
}

// idle are calls that change nothing, as they are refused: each with its answer. They are made twice, on one of two that are alike.
func idle(t *testing.T, which string, makes func() *sched.Sched, refused map[call]api.Errno) {
	t.Helper()
	for c, want := range refused {
		s := makes()
		for range 2 {
			if n, e := does(s, c); n != 0 || e != want {
				t.Errorf("%s: %v = %d, %d, want 0, %d", which, c, n, e, want)
			}
		}
		same(t, which, drains(s), drains(makes()))
	}
}
