package ports_test

import (
	"slices"
	"testing"

	"arcade/ports"
)

// TestP52Transfer: 4096 clocks, cut in some ways; the byte is the one that stood in SHIFT as it began.
func TestP52Transfer(t *testing.T) {
	for _, cuts := range [][]int{{4095, 1}, {1, 4094, 1}, {2048, 2047, 1}, {0, 4095, 0, 1}} {
		p := ports.New()
		write(t, p, shift, 200, line, 129)
		last := len(cuts) - 1
		step(t, p, cuts[:last]...)
		reads(t, "P5.2", p, shift, 200, line, 255, requests, 225)
		write(t, p, shift, 7)
		if s := p.Sent(); len(s) != 0 {
			t.Errorf("P5.2: sent ahead of the last clock: %v", s)
		}
		step(t, p, cuts[last])
		reads(t, "P5.2", p, shift, 255, line, 127, requests, 233)
		if s := p.Sent(); !slices.Equal(s, []byte{200}) {
			t.Errorf("P5.2: Sent() = %v, want 200", s)
		}
		step(t, p, 100000)
		if s := p.Sent(); len(s) != 1 {
			t.Errorf("P5.2: sent again: %v", s)
		}
	}
}

// TestP52LineWritten: in the midst of a transfer each value to LINE ends it, or begins it anew with what SHIFT is then.
func TestP52LineWritten(t *testing.T) {
	for v := range 256 {
		p := ports.New()
		write(t, p, shift, 1, line, 129)
		step(t, p, 4095)
		write(t, p, shift, 2, line, v)
		both := v&129 == 129
		reads(t, "P5.2", p, shift, 2, line, 126|v&129, requests, 225)
		step(t, p, 4095)
		if s := p.Sent(); len(s) != 0 {
			t.Errorf("P5.2: LINE %d: sent %v too early", v, s)
		}
		step(t, p, 1)
		if both {
			reads(t, "P5.2", p, shift, 255, line, 127, requests, 233)
		} else {
			reads(t, "P5.2", p, shift, 2, line, 126|v&129, requests, 225)
		}
		if s := p.Sent(); both != slices.Equal(s, []byte{2}) || len(s) > 1 {
			t.Errorf("P5.2: LINE %d: Sent() = %v", v, s)
		}
	}
}

// TestP52LineIdle: without a transfer, each value to LINE begins one just if it has both bits.
func TestP52LineIdle(t *testing.T) {
	for v := range 256 {
		p := ports.New()
		write(t, p, shift, v, line, v)
		step(t, p, 4096)
		if s := p.Sent(); v&129 == 129 != slices.Equal(s, []byte{byte(v)}) || len(s) > 1 {
			t.Errorf("P5.2: LINE %d: Sent() = %v", v, s)
		}
	}
}

// TestP52SentMany: the last 256 are known, the oldest first.
func TestP52SentMany(t *testing.T) {
	p := ports.New()
	var sent []byte
	for i := range 700 {
		b := byte(i*7 + i/256)
		write(t, p, shift, int(b), line, 129)
		step(t, p, 4096)
		sent = append(sent, b)
		if want := sent[max(0, len(sent)-256):]; !slices.Equal(p.Sent(), want) {
			t.Fatalf("P5.2: of %d bytes: Sent() = %v, want %v", i+1, p.Sent(), want)
		}
	}
}

// TestP52LastClock: a transfer and an alarm that come in one clock.
func TestP52LastClock(t *testing.T) {
	p := ports.New()
	write(t, p, shift, 9, line, 129)
	step(t, p, 4096-20)
	write(t, p, divider, 0, control, 5, timer, 255, again, 5, requests, 0)
	step(t, p, 19)
	asked(t, "P5.2", p, 0)
	step(t, p, 1)
	asked(t, "P5.2", p, 12)
	reads(t, "P5.2", p, timer, 5, shift, 255, line, 127)
}
