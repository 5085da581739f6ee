package ports_test

import (
	"math/rand"
	"testing"

	"arcade/api"
	"arcade/ports"
)

// units are the clocks of a tick, by CONTROL's bits 1 and 0.
var units = []int{1024, 16, 64, 256}

// TestP55Divider: it grows by one every 256 clocks, whatever CONTROL is, and goes round.
func TestP55Divider(t *testing.T) {
	for c := range 8 {
		p := ports.New()
		write(t, p, control, c, divider, 200+c)
		for i := range 600 {
			reads(t, "P5.5", p, divider, i%256)
			step(t, p, 255)
			reads(t, "P5.5", p, divider, i%256)
			step(t, p, 1)
		}
		step(t, p, 1000000)
		reads(t, "P5.5", p, divider, (600+1000000/256)%256)
	}
}

// TestP55Requests: with each AGAIN they come just every (256 - a) times the unit, from whatever counter.
func TestP55Requests(t *testing.T) {
	r := rand.New(rand.NewSource(55))
	for k, unit := range units {
		for a := range 256 {
			p := ports.New()
			before := r.Intn(65536)
			write(t, p, divider, 0, again, a)
			step(t, p, before)
			write(t, p, control, 4+k, timer, 255)
			step(t, p, unit-before%unit+3)
			reads(t, "P5.5", p, requests, 225, timer, 0)
			step(t, p, 1)
			reads(t, "P5.5", p, requests, 229, timer, a)
			for range 3 {
				take(t, p, api.AskTimer)
				step(t, p, (256-a)*unit-1)
				asked(t, "P5.5", p, 1)
				step(t, p, 1)
				asked(t, "P5.5", p, 5)
				reads(t, "P5.5", p, timer, a)
			}
		}
	}
}

// TestP55Many: in many clocks at once as in single ones: how far the timer has come is what the formula says.
func TestP55Many(t *testing.T) {
	for k, unit := range units {
		for _, clocks := range []int{0, 1, unit - 1, unit, unit + 1, 255 * unit, 256*unit - 1, 65535, 65536, 200000} {
			p := ports.New()
			write(t, p, divider, 0, control, 4+k)
			step(t, p, clocks)
			reads(t, "P5.5", p, timer, clocks/unit%256, divider, clocks/256%256)
			want := 1
			if clocks >= 256*unit+4 {
				want = 5
			}
			asked(t, "P5.5", p, want)
		}
	}
}

// TestP55Stopped: without CONTROL's bit 2 it does not tick.
func TestP55Stopped(t *testing.T) {
	for c := range 4 {
		p := ports.New()
		write(t, p, control, c, timer, 255, again, 9)
		for range 300 {
			step(t, p, 999)
		}
		reads(t, "P5.5", p, timer, 255)
		asked(t, "P5.5", p, 1)
	}
}

// TestP52EachClock: one clock at each counter with each CONTROL, at timers with and without an alarm.
func TestP52EachClock(t *testing.T) {
	p, m := ports.New(), newModel()
	fresh := p.State()
	for c := range 8 {
		for counter := range 65536 {
			if counter%1024 < 1000 && counter%16 < 13 && counter%61 > 0 { // far from where a bit falls
				continue
			}
			state := changed(fresh, atCounter, counter%256, atCounter+1, counter/256, atControl, c, atTimer, 255-counter%2, atAgain, 255, atAlarm, counter/2%3)
			put(t, p, state)
			m.load(state)
			step(t, p, 1)
			m.step(1)
			if !as(p, m) {
				t.Fatalf("P5.2: a clock from %v: %v, want %v", state, p.State(), m.state())
			}
		}
	}
}

// TestP52DriveWritten: each change of CONTROL, and DIVIDER, at each counter up to the highest bit that drives.
func TestP52DriveWritten(t *testing.T) {
	p, m := ports.New(), newModel()
	fresh := p.State()
	for counter := range 1024 {
		for change := range 72 {
			state := changed(fresh, atCounter, counter%256, atCounter+1, counter/256+4*change, atControl, change%8, atTimer, 254+counter%2, atAlarm, counter%5)
			put(t, p, state)
			m.load(state)
			address := control
			if change >= 64 {
				address = divider
			}
			write(t, p, address, change/8)
			m.write(address, change/8)
			if !as(p, m) {
				t.Fatalf("P5.2: Write(%x, %d) from %v: %v, want %v", address, change/8, state, p.State(), m.state())
			}
		}
	}
}

// TestP52Ticks: by writes, written out.
func TestP52Ticks(t *testing.T) {
	for _, c := range []struct {
		name   string
		clocks int
		writes []int
		want   int
	}{
		{"the drive is 0", 7, []int{divider, 0}, 10},
		{"it becomes 0 by DIVIDER", 8, []int{divider, 99}, 11},
		{"it has become 0 already", 8, []int{divider, 0, divider, 0}, 11},
		{"it becomes 0 as the timer stops", 15, []int{control, 1}, 11},
		{"it becomes 0 and 1", 8, []int{control, 0, control, 5}, 11},
		{"twice", 8, []int{control, 0, control, 5, control, 0}, 12},
		{"it stays 1", 8, []int{control, 5}, 10},
		{"it stays 1, by another bit", 40, []int{control, 6}, 12},
		{"it becomes 0, by another bit", 8, []int{control, 6}, 11},
		{"it becomes 1", 32, []int{control, 6}, 12},
	} {
		p := ports.New()
		write(t, p, divider, 0, timer, 10, control, 5)
		step(t, p, c.clocks)
		write(t, p, c.writes...)
		if v, _ := p.Read(timer); v != c.want {
			t.Errorf("P5.2: %s: the timer is %d, want %d", c.name, v, c.want)
		}
	}
}

// TestP52AlarmCut: an alarm of which the clocks are cut in all ways; AGAIN counts as it is in the last one.
func TestP52AlarmCut(t *testing.T) {
	for _, cuts := range [][]int{{20}, {16, 4}, {16, 1, 1, 1, 1}, {15, 5}, {16, 3, 1}, {19, 1}, {15, 1, 4}, {17, 3}, {18, 2}, {1, 19}, {0, 20, 0}} {
		p := ports.New()
		write(t, p, divider, 0, control, 5, timer, 255, again, 7)
		step(t, p, cuts...)
		reads(t, "P5.2", p, timer, 7, requests, 229)
	}
	p := ports.New()
	write(t, p, divider, 0, control, 5, timer, 255, again, 7)
	step(t, p, 15)
	reads(t, "P5.2", p, timer, 255)
	step(t, p, 1)
	for range 3 {
		reads(t, "P5.2", p, timer, 0, requests, 225)
		step(t, p, 1)
	}
	write(t, p, again, 200)
	reads(t, "P5.2", p, timer, 0, requests, 225)
	step(t, p, 1)
	reads(t, "P5.2", p, timer, 200, requests, 229)
	write(t, p, again, 3)
	reads(t, "P5.2", p, timer, 200)
}

// TestP52AlarmEnded: a write to TIMER with each of the alarm's clocks to go ends it, also one of the value that is there.
func TestP52AlarmEnded(t *testing.T) {
	for left := 4; left >= 0; left-- {
		for _, v := range []int{0, 5, 255} {
			p := ports.New()
			write(t, p, divider, 0, control, 5, timer, 255, again, 77)
			step(t, p, 20-left)
			write(t, p, timer, v)
			step(t, p, 11)
			want := 225
			if left == 0 {
				want = 229
			}
			reads(t, "P5.2", p, timer, v, requests, want)
		}
	}
}

// TestP52AlarmTick: ticks while the alarm has clocks to go: the timer grows, and becomes AGAIN all the same; one from 255 begins it anew.
func TestP52AlarmTick(t *testing.T) {
	p := ports.New()
	write(t, p, divider, 0, control, 5, timer, 255, again, 77)
	step(t, p, 8)
	write(t, p, divider, 0) // by this the timer becomes 0
	reads(t, "P5.2", p, timer, 0)
	step(t, p, 1)
	if s := p.State(); s[atAlarm] != 3 {
		t.Errorf("P5.2: the alarm has %d clocks to go, want 3", s[atAlarm])
	}
	step(t, p, 3)
	reads(t, "P5.2", p, timer, 77, requests, 229)
	fresh := ports.New().State()
	for left := 1; left <= 4; left++ {
		state := changed(fresh, atCounter, 8, atCounter+1, 0, atControl, 5, atAgain, 77, atAlarm, left)
		put(t, p, changed(state, atTimer, 30))
		write(t, p, divider, 0)
		reads(t, "P5.2", p, timer, 31)
		step(t, p, left-1)
		reads(t, "P5.2", p, timer, 31, requests, 225)
		step(t, p, 1)
		reads(t, "P5.2", p, timer, 77, requests, 229)
		put(t, p, changed(state, atTimer, 255))
		write(t, p, divider, 0)
		step(t, p, 3)
		reads(t, "P5.2", p, timer, 0, requests, 225)
		step(t, p, 1)
		reads(t, "P5.2", p, timer, 77, requests, 229)
	}
}

// TestP52AlarmAndTick: in one clock the alarm comes first: the timer becomes AGAIN, and ticks from there.
func TestP52AlarmAndTick(t *testing.T) {
	fresh := ports.New().State()
	p := ports.New()
	state := changed(fresh, atCounter, 15, atCounter+1, 0, atControl, 5, atTimer, 3, atAlarm, 1)
	put(t, p, state, atAgain, 9)
	step(t, p, 1)
	reads(t, "P5.2", p, timer, 10, requests, 229)
	put(t, p, state, atAgain, 255)
	step(t, p, 1)
	reads(t, "P5.2", p, timer, 0, requests, 229)
	if s := p.State(); s[atAlarm] != 4 {
		t.Errorf("P5.2: the alarm has %d clocks to go, want 4", s[atAlarm])
	}
	put(t, p, state, atTimer, 255, atAgain, 9) // it is not 255 any more when it ticks
	step(t, p, 1)
	reads(t, "P5.2", p, timer, 10)
	if s := p.State(); s[atAlarm] != 0 {
		t.Errorf("P5.2: the alarm has %d clocks to go, want 0", s[atAlarm])
	}
	put(t, p, state, atTimer, 255, atAlarm, 2, atAgain, 9) // a tick ahead of the alarm's last clock: it has four again
	step(t, p, 1)
	if s := p.State(); s[atAlarm] != 4 || s[atTimer] != 0 {
		t.Errorf("P5.2: the alarm has %d clocks to go, the timer is %d, want 4, 0", s[atAlarm], s[atTimer])
	}
}
