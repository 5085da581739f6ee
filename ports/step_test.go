package ports_test

import (
	"math/rand"
	"testing"

	"arcade/ports"
)

// used are ports on which much was done.
func used(t *testing.T, r *rand.Rand) *ports.Ports {
	t.Helper()
	p := ports.New()
	for range 60 {
		c := anyAct(r)
		do(t, c.name, c.on(p))
	}
	write(t, p, control, r.Intn(8), again, r.Intn(256), line, 128+r.Intn(2))
	step(t, p, r.Intn(5000))
	if r.Intn(2) == 0 {
		write(t, p, control, 5, timer, 255, divider, 0)
		step(t, p, 10+r.Intn(10))
	}
	return p
}

// twin are two that are alike, but for what was sent.
func twin(t *testing.T, p *ports.Ports) (*ports.Ports, *ports.Ports) {
	t.Helper()
	state := p.State()
	return loaded(t, state), loaded(t, state)
}

// TestP53Two: Step(m) and then Step(n) is Step(m + n).
func TestP53Two(t *testing.T) {
	r := rand.New(rand.NewSource(53))
	for i := range 3000 {
		p, q := twin(t, used(t, r))
		most := []int{30, 30, 5000, 70000}[r.Intn(4)]
		m, n := r.Intn(most), r.Intn(most)
		step(t, p, m, n)
		step(t, q, m+n)
		if !same(p, q) {
			t.Fatalf("P5.3: %d: Step(%d), Step(%d): %v, %v, want %v, %v", i, m, n, p.State(), p.Sent(), q.State(), q.Sent())
		}
	}
}

// TestP53EachCut: an alarm, a transfer and ticks, cut at each clock.
func TestP53EachCut(t *testing.T) {
	for i, state := range states(t) {
		for m := range 60 {
			p, q := loaded(t, state), loaded(t, state)
			step(t, p, m, 60-m)
			step(t, q, 60)
			if !same(p, q) {
				t.Errorf("P5.3: state %d: Step(%d), Step(%d): %v, want %v", i, m, 60-m, p.State(), q.State())
			}
		}
	}
}

// TestP53Most: the most clocks that may be, in one step, in two, in many; and more than these in two.
func TestP53Most(t *testing.T) {
	for i, state := range states(t) {
		one, two, many, more := loaded(t, state), loaded(t, state), loaded(t, state), loaded(t, state)
		step(t, one, 1000000)
		step(t, two, 333333, 666667)
		for range 1000 {
			step(t, many, 999, 1)
		}
		if !same(one, two) || !same(one, many) {
			t.Errorf("P5.3: state %d: a million clocks: %v, %v, %v", i, one.State(), two.State(), many.State())
		}
		step(t, one, 1000000)
		step(t, more, 999999, 1000000, 1)
		if !same(one, more) {
			t.Errorf("P5.3: state %d: two millions: %v, %v", i, one.State(), more.State())
		}
	}
}

// TestP53Single: steps of one clock.
func TestP53Single(t *testing.T) {
	for i, state := range states(t) {
		p, q := loaded(t, state), loaded(t, state)
		for clock := range 9000 {
			step(t, p, 1)
			if clock%97 == 96 {
				step(t, q, 97)
				if !same(p, q) {
					t.Fatalf("P5.3: state %d, %d clocks: %v, want %v", i, clock+1, p.State(), q.State())
				}
			}
		}
	}
}
