package ports_test

import (
	"slices"
	"testing"

	"arcade/api"
	"arcade/ports"
)

// TestP52New: what is there at the start.
func TestP52New(t *testing.T) {
	p := ports.New()
	reads(t, "P5.2", p, buttons, 255, shift, 0, line, 126, divider, 171, timer, 0, again, 0, control, 248, requests, 225)
	asked(t, "P5.2", p, 1)
	if s := p.Sent(); len(s) != 0 {
		t.Errorf("P5.2: Sent() = %v of new ports", s)
	}
	if s, want := p.State(), []byte{0, 48, 0, 0, 204, 171, 0, 0, 0, 1, 0, 0, 0, 0, 0, 0, 0, 0, 0}; !slices.Equal(s, want) {
		t.Errorf("P5.2: State() = %v of new ports, want %v", s, want)
	}
	step(t, p, 51)
	reads(t, "P5.2", p, divider, 171)
	step(t, p, 1)
	reads(t, "P5.2", p, divider, 172)
}

// TestP52Examples: those of 5.7.
func TestP52Examples(t *testing.T) {
	p := ports.New()
	write(t, p, buttons, 32)
	press(t, p, 1)
	reads(t, "P5.2", p, buttons, 238)
	asked(t, "P5.2", p, 17)
	p = ports.New()
	write(t, p, divider, 9)
	step(t, p, 256)
	reads(t, "P5.2", p, divider, 1)
	p = ports.New()
	write(t, p, divider, 0, control, 5, timer, 255, again, 7)
	step(t, p, 16)
	reads(t, "P5.2", p, timer, 0, requests, 225)
	step(t, p, 4)
	reads(t, "P5.2", p, timer, 7, requests, 229)
	p = ports.New()
	write(t, p, shift, 65, line, 129)
	step(t, p, 4095)
	reads(t, "P5.2", p, line, 255)
	step(t, p, 1)
	reads(t, "P5.2", p, shift, 255, line, 127)
	if s := p.Sent(); string(s) != "A" {
		t.Errorf("P5.2: Sent() = %v, want 65", s)
	}
}

// TestP52Held: what each port reads when each value was written to it, written out.
func TestP52Held(t *testing.T) {
	for v := range 256 {
		p := ports.New()
		for _, c := range [][2]int{{buttons, 0xcf | v&0x30}, {shift, v}, {line, 0x7e | v&0x81}, {divider, 0}, {timer, v}, {again, v}, {control, 0xf8 | v&7}, {requests, 0xe0 | v&31}} {
			write(t, p, c[0], v)
			reads(t, "P5.2", p, c[0], c[1])
		}
		asked(t, "P5.2", p, v&31)
	}
}

// TestP52EachWrite: each value written to each port, from states in the midst of things, changes just what it should, then and later.
func TestP52EachWrite(t *testing.T) {
	for i, state := range states(t) {
		for _, address := range all {
			for v := range 256 {
				p, m := ports.New(), newModel()
				put(t, p, state)
				m.load(state)
				write(t, p, address, v)
				m.write(address, v)
				if !as(p, m) {
					t.Fatalf("P5.2: state %d, Write(%x, %d): %v, want %v", i, address, v, p.State(), m.state())
				}
				for range 9 {
					step(t, p, 2)
					m.step(2)
					if !as(p, m) {
						t.Fatalf("P5.2: state %d, behind Write(%x, %d): %v, want %v", i, address, v, p.State(), m.state())
					}
				}
			}
		}
	}
}

// TestP52Requests: Raise and Take of each request, from each set of them.
func TestP52Requests(t *testing.T) {
	p := ports.New()
	for set := range 32 {
		for n := range 5 {
			write(t, p, requests, set)
			if e := p.Raise(n); e != api.OK {
				t.Fatalf("P5.2: Raise(%d) = %d", n, e)
			}
			asked(t, "P5.2", p, set|1<<n)
			reads(t, "P5.2", p, requests, 224|set|1<<n)
			write(t, p, requests, set)
			if e := p.Take(n); e != api.OK {
				t.Fatalf("P5.2: Take(%d) = %d", n, e)
			}
			asked(t, "P5.2", p, set&^(1<<n))
			reads(t, "P5.2", p, requests, 224|set&^(1<<n))
		}
	}
}
