package sched_test

import (
	"math/rand"
	"slices"
	"testing"

	"arcade/api"
)

// TestS5RoundAndRound: of numbers that are all ready each has one turn a round, in the same order, whatever slot does it.
func TestS5RoundAndRound(t *testing.T) {
	for _, many := range []int{1, 2, 3, 8, 9, 63, 64} {
		for slots := 1; slots <= 8; slots++ {
			s := eager(t, slots, run(many)...)
			for i := range 5 * many {
				have(t, s, i*i%slots, i%many)
			}
			round(t, s, run(many)...)
		}
	}
}

// watch counts, for the numbers that are ready all the time, the turns of each since the last turn of each.
type watch struct {
	always []int
	turns  map[[2]int]int // since the last turn of the first one: those of the second one
	had    map[int]int    // turns of each
	begins map[int]int    // since the last turn of one
	bound  map[int]int    // how many were in the round then
}

func watchOf(always []int, many int) *watch {
	w := &watch{always: always, turns: map[[2]int]int{}, had: map[int]int{}, begins: map[int]int{}, bound: map[int]int{}}
	for _, id := range always {
		w.bound[id] = many
	}
	return w
}

// turn is told of one, and holds what is promised of it.
func (w *watch) turn(t *testing.T, id, many int) {
	t.Helper()
	for _, a := range w.always {
		w.begins[a]++
		if w.begins[a] > w.bound[a] {
			t.Errorf("S5: %d is ready and has had no turn in %d Begins, in a round of %d", a, w.begins[a], w.bound[a])
		}
		w.turns[[2]int{a, id}]++
	}
	if !slices.Contains(w.always, id) {
		return
	}
	for _, b := range w.always {
		if n := w.turns[[2]int{id, b}]; b != id && w.had[id] > 0 && n != 1 {
			t.Errorf("S5: between two turns of %d there are %d of %d", id, n, b)
		}
		w.turns[[2]int{id, b}] = 0
	}
	w.had[id]++
	w.begins[id], w.bound[id] = 0, many
}

// TestS5Fair: some are ready all the time; others come, go, are ready or not, by lot; each turn is ended ahead of the next one.
func TestS5Fair(t *testing.T) {
	for seed := range int64(60) {
		draw := rand.New(rand.NewSource(seed))
		slots, many := 1+draw.Intn(8), 1+draw.Intn(64)
		ids := draw.Perm(many)
		always := ids[:1+draw.Intn(many)]
		s := made(t, slots, draw.Perm(many)...)
		for _, id := range always {
			ready(t, s, id, true, api.OK)
		}
		w := watchOf(always, many)
		for range 40 * many {
			for range draw.Intn(4) {
				if id := draw.Intn(70); !slices.Contains(always, id) {
					does(s, call{kind: []string{"Add", "Remove", "Ready", "Ready"}[draw.Intn(4)], n: id, ready: draw.Intn(3) > 0})
				}
			}
			slot, now := draw.Intn(slots), len(s.Round())
			id, e := s.Begin(slot)
			if e != api.OK {
				t.Fatalf("S5: seed %d: Begin(%d) = %d, %d", seed, slot, id, e)
			}
			w.turn(t, id, now)
			end(t, s, slot, id)
			if t.Failed() {
				t.Fatalf("S5: seed %d: %d slots, a round of %d, of which %v are ready all the time", seed, slots, now, always)
			}
		}
		for _, id := range always {
			if w.had[id] < 2 {
				t.Errorf("S5: seed %d: %d has had %d turns", seed, id, w.had[id])
			}
		}
	}
}

// TestS5Last: who waits at the end of a full round has its turn just when all others have had theirs.
func TestS5Last(t *testing.T) {
	for many := 1; many <= 64; many++ {
		s := eager(t, 1, run(many)...)
		have(t, s, 0, run(many)...)
		remove(t, s, 0, api.OK)
		add(t, s, 0, api.OK)
		ready(t, s, 0, true, api.OK)
		have(t, s, 0, append(run(many)[1:], 0)...)
	}
}

// TestS5OneTurn: no number has two turns at one time, whatever is done between.
func TestS5OneTurn(t *testing.T) {
	for seed := range int64(40) {
		draw := rand.New(rand.NewSource(500 + seed))
		s, m := made(t, 8), map[int]int{} // by slots: whose turn goes on
		for range 2000 {
			c := drawn(draw, 8, 10)
			n, e := does(s, c)
			if e != api.OK {
				continue
			}
			switch c.kind {
			case "Begin":
				for slot, id := range m {
					if id == n {
						t.Fatalf("S5: seed %d: %d has turns on the slots %d and %d", seed, id, slot, c.n)
					}
				}
				m[c.n] = n
			case "End":
				if id, on := m[c.n]; !on || id != n {
					t.Fatalf("S5: seed %d: the turn of %d on slot %d is told as that of %d", seed, id, c.n, n)
				}
				delete(m, c.n)
			}
		}
	}
}
