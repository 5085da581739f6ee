package sched_test

import (
	"testing"

	"arcade/api"
	"arcade/sched"
)

// TestS1Slots: 1 to 8 slots are taken; there are just so many, all of them free, and nobody is in the round.
func TestS1Slots(t *testing.T) {
	for many := 1; many <= 8; many++ {
		s := made(t, many)
		round(t, s)
		for slot := -2; slot < 12; slot++ {
			notEnded(t, s, slot)
			want := api.ErrSchedNone
			if slot < 0 || slot >= many {
				want = api.ErrSchedSlot
			}
			notBegun(t, s, slot, want)
		}
		s = eager(t, many, run(9)...)
		for slot := range many {
			begin(t, s, slot, slot)
		}
		notBegun(t, s, many, api.ErrSchedSlot)
		notBegun(t, s, -1, api.ErrSchedSlot)
		notEnded(t, s, many)
		notEnded(t, s, -1)
		for slot := range many {
			end(t, s, slot, slot)
		}
	}
}

// TestS1Refused: any other number of slots makes none.
func TestS1Refused(t *testing.T) {
	for _, many := range append([]int{0, 10, 16, 65, 255, 257}, far...) {
		if many == api.MaxSlots {
			continue
		}
		if s, e := sched.New(many); s != nil || e != api.ErrArg {
			t.Errorf("S1: New(%d) = %v, %d, want none, %d", many, s != nil, e, api.ErrArg)
		}
	}
}

// TestS1Constants: the numbers of the chapter.
func TestS1Constants(t *testing.T) {
	if api.MaxSlots != 8 || api.MaxReady != 64 || api.ErrSchedSlot != 131 || api.ErrSchedId != 132 || api.ErrSchedFull != 133 || api.ErrSchedNone != 134 {
		t.Error("S1: a constant has another number")
	}
}
