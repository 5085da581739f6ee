package sched_test

import (
	"fmt"
	"math/rand"
	"slices"
	"strconv"
	"sync"
	"testing"

	"arcade/sched"
)

// drawn is a call by lot, of numbers below ids; now and then with a number or a slot that is none.
func drawn(draw *rand.Rand, slots, ids int) call {
	c := call{n: draw.Intn(ids), ready: draw.Intn(4) > 0}
	slot := draw.Intn(slots)
	if draw.Intn(20) == 0 {
		c.n = far[draw.Intn(len(far))]
		slot = c.n
	}
	switch k := draw.Intn(20); {
	case k < 4:
		c.kind = "Add"
	case k < 6:
		c.kind = "Remove"
	case k < 10:
		c.kind = "Ready"
	case k < 15:
		c.kind, c.n = "Begin", slot
	default:
		c.kind, c.n = "End", slot
	}
	return c
}

// TestS3Model: calls drawn by lot, right and wrong ones, that a sched answers as its model does.
func TestS3Model(t *testing.T) {
	done := map[string]int{}
	for seed := range int64(160) {
		draw := rand.New(rand.NewSource(seed))
		slots, ids := 1+draw.Intn(8), []int{1, 2, 3, 5, 9, 20, 66, 80}[seed%8]
		s, m := made(t, slots), modelOf(slots)
		for step := range 1200 {
			c := drawn(draw, slots, ids)
			if ids > 64 && c.kind == "Remove" && draw.Intn(2) == 0 {
				c.kind = "Add" // so that rounds are full at times
			}
			n, e := does(s, c)
			if wantN, wantE := does(m, c); n != wantN || e != wantE {
				t.Fatalf("seed %d, step %d: %v = %d, %d, want %d, %d", seed, step, c, n, e, wantN, wantE)
			}
			done[c.kind+" "+strconv.Itoa(int(e))]++
			if got, want := s.Round(), m.Round(); !slices.Equal(got, want) {
				t.Fatalf("seed %d, step %d: behind %v Round() = %v, want %v", seed, step, c, got, want)
			}
		}
		same(t, fmt.Sprintf("seed %d: a sched and its model", seed), drains(s), drains(m))
	}
	for _, kind := range []string{"Add 0", "Add 1", "Add 132", "Add 133", "Remove 0", "Remove 132", "Ready 0", "Ready 132", "Begin 0", "Begin 131", "Begin 134", "End 0", "End 131"} {
		if done[kind] < 100 {
			t.Errorf("the lot has drawn %s only %d times", kind, done[kind])
		}
	}
}

// few are all calls about two numbers and two slots.
func few() []call {
	var list []call
	for n := range 2 {
		list = append(list, call{kind: "Add", n: n}, call{kind: "Remove", n: n}, call{kind: "Ready", n: n, ready: true}, call{kind: "Ready", n: n}, call{kind: "Begin", n: n}, call{kind: "End", n: n})
	}
	return list
}

// TestS3EachOrder: all runs of four calls about two numbers and two slots, from the beginning and from three places on the way.
func TestS3EachOrder(t *testing.T) {
	calls := few()
	add0, add1 := call{kind: "Add", n: 0}, call{kind: "Add", n: 1}
	ready0, ready1 := call{kind: "Ready", n: 0, ready: true}, call{kind: "Ready", n: 1, ready: true}
	for _, way := range [][]call{
		nil,
		{add0, add1, ready1},
		{add0, add1, ready0, ready1},
		{add1, add0, ready0, ready1, {kind: "Begin", n: 1}},
	} {
		for number := range len(calls) * len(calls) * len(calls) * len(calls) {
			list := slices.Clone(way)
			for rest := number; len(list) < len(way)+4; rest /= len(calls) {
				list = append(list, calls[rest%len(calls)])
			}
			s, m := made(t, 2), modelOf(2)
			for _, c := range list {
				n, e := does(s, c)
				if wantN, wantE := does(m, c); n != wantN || e != wantE {
					t.Fatalf("%v: the last one, %v = %d, %d, want %d, %d", list, c, n, e, wantN, wantE)
				}
			}
			same(t, fmt.Sprint(list), drains(s), drains(m))
			if t.Failed() {
				return
			}
		}
	}
}

// TestS1Apart: several of them, the calls mixed, and at one time, have nothing to do with one another.
func TestS1Apart(t *testing.T) {
	const many, steps = 6, 1500
	var lots [many]*rand.Rand
	var mixed, beside [many]*sched.Sched
	for i := range many {
		lots[i] = rand.New(rand.NewSource(int64(70 + i)))
		mixed[i], beside[i] = made(t, 1+i), made(t, 1+i)
	}
	var models [many]*model
	var calls [many][]call
	for i := range many {
		models[i] = modelOf(1 + i)
	}
	for step := range steps {
		for i := range many {
			c := drawn(lots[i], 1+i, 12)
			calls[i] = append(calls[i], c)
			n, e := does(mixed[i], c)
			if wantN, wantE := does(models[i], c); n != wantN || e != wantE {
				t.Fatalf("S1: step %d of number %d: %v = %d, %d, want %d, %d", step, i, c, n, e, wantN, wantE)
			}
		}
	}
	var all sync.WaitGroup
	for i := range many {
		all.Go(func() {
			for _, c := range calls[i] {
				does(beside[i], c)
			}
		})
	}
	all.Wait()
	for i := range many {
		want := drains(models[i])
		same(t, "S1: among others", drains(mixed[i]), want)
		same(t, "S1: beside others", drains(beside[i]), want)
	}
}
