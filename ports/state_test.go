package ports_test

import (
	"math/rand"
	"slices"
	"testing"

	"arcade/api"
	"arcade/ports"
)

// mayBe tells, by the chapter's list, whether these are a state's bytes.
func mayBe(s []byte) bool {
	if len(s) != 19 || slices.Max(s[atLast:]) > 0 {
		return false
	}
	rows, lines := []byte{0, 16, 32, 48}, []byte{0, 1, 128, 129}
	if !slices.Contains(rows, s[atRows]) || !slices.Contains(lines, s[atLine]) || s[atControl] > 7 || s[atRequests] > 31 || s[atAlarm] > 4 {
		return false
	}
	transfer := int(s[atTransfer]) + 256*int(s[atTransfer+1])
	if transfer > 4096 || (transfer > 0) != (s[atLine] == 129) {
		return false
	}
	return transfer > 0 || s[atSending] == 0
}

// loads loads bytes into ports that have sent something: they are so, and have sent nothing, or nothing is changed.
func loads(t *testing.T, p *ports.Ports, state []byte) {
	t.Helper()
	was, sent := p.State(), p.Sent()
	e := p.Load(state)
	if mayBe(state) {
		if e != api.OK || !slices.Equal(p.State(), state) || len(p.Sent()) != 0 {
			t.Fatalf("P5.4: Load(%v) = %d; State() = %v, Sent() = %v", state, e, p.State(), p.Sent())
		}
		return
	}
	if e != api.ErrPortState || !slices.Equal(p.State(), was) || !slices.Equal(p.Sent(), sent) {
		t.Fatalf("P5.4: Load(%v) = %d, want %d; State() = %v, want %v", state, e, api.ErrPortState, p.State(), was)
	}
}

// TestP54State: written out.
func TestP54State(t *testing.T) {
	p := ports.New()
	write(t, p, buttons, 16, shift, 7, line, 129, divider, 0, timer, 255, again, 3, control, 5)
	press(t, p, 200)
	step(t, p, 18)
	if s, want := p.State(), []byte{200, 16, 7, 129, 18, 0, 0, 3, 5, 17, 2, 238, 15, 7, 0, 0, 0, 0, 0}; !slices.Equal(s, want) {
		t.Errorf("P5.4: State() = %v, want %v", s, want)
	}
	write(t, p, shift, 8, line, 255, buttons, 255, control, 255, requests, 255)
	step(t, p, 0x1000-0x0123)
	if s, want := p.State(), []byte{200, 48, 8, 129, 0xef, 0x0e, 3 + 14, 3, 7, 31, 0, 0x23, 0x01, 8, 0, 0, 0, 0, 0}; !slices.Equal(s, want) {
		t.Errorf("P5.4: State() = %v, want %v", s, want)
	}
	write(t, p, line, 254)
	if s := p.State(); s[atLine] != 128 || s[atTransfer] != 0 || s[atTransfer+1] != 0 || s[atSending] != 0 {
		t.Errorf("P5.4: State() = %v behind the end of a transfer", s)
	}
	write(t, p, line, 129)
	step(t, p, 4096)
	if s := p.State(); s[atLine] != 1 || s[atTransfer] != 0 || s[atTransfer+1] != 0 || s[atSending] != 0 || s[atShift] != 255 {
		t.Errorf("P5.4: State() = %v behind a transfer", s)
	}
}

// TestP54EachByte: each place with each byte, from states of all kinds: taken, or refused with nothing changed.
func TestP54EachByte(t *testing.T) {
	for _, state := range states(t) {
		for at := range state {
			p := busy(t)
			for v := range 256 {
				loads(t, p, changed(state, at, v))
			}
		}
	}
}

// TestP54Transfers: all numbers of clocks with all of LINE's bits, with a byte that is sent and with none.
func TestP54Transfers(t *testing.T) {
	fresh := ports.New().State()
	p := busy(t)
	for transfer := range 65536 {
		if transfer > 4200 && transfer%256 > 1 {
			continue
		}
		for _, lines := range []int{0, 1, 128, 129} {
			for _, sending := range []int{0, 1, 128} {
				loads(t, p, changed(fresh, atTransfer, transfer%256, atTransfer+1, transfer/256, atLine, lines, atSending, sending))
			}
		}
	}
}

// TestP54Pairs: two places with other bytes.
func TestP54Pairs(t *testing.T) {
	r := rand.New(rand.NewSource(540))
	all := states(t)
	p := busy(t)
	for range 100000 {
		bytes := []int{0, 1, 4, 5, 16, 48, 128, 129, 255, r.Intn(256)}
		state := changed(all[r.Intn(len(all))], r.Intn(19), bytes[r.Intn(10)], r.Intn(19), bytes[r.Intn(10)])
		loads(t, p, state)
	}
}

// TestP54Lengths: states that are cut, too long, or turned.
func TestP54Lengths(t *testing.T) {
	for _, state := range states(t) {
		p := busy(t)
		for n := range 19 {
			loads(t, p, state[:n])
			loads(t, p, state[19-n:])
		}
		for n := 1; n < 300; n++ {
			loads(t, p, append(slices.Clone(state), make([]byte, n)...))
		}
		loads(t, p, nil)
		loads(t, p, append(slices.Clone(state), state...))
		turned := slices.Clone(state)
		slices.Reverse(turned)
		loads(t, p, turned)
		loads(t, p, make([]byte, 1<<20))
	}
}

// TestP54Sent: behind a Load nothing was sent, also of one's own state.
func TestP54Sent(t *testing.T) {
	p := busy(t)
	if len(p.Sent()) != 1 {
		t.Fatalf("P5.4: Sent() = %v, want one byte", p.Sent())
	}
	loads(t, p, p.State())
	step(t, p, 5000)
	if s := p.Sent(); !slices.Equal(s, []byte{66}) {
		t.Errorf("P5.4: Sent() = %v, want 66 alone", s)
	}
}

// TestP54GoesOn: ports that are loaded do all that those do whose state it was, whatever they were ahead of it.
func TestP54GoesOn(t *testing.T) {
	r := rand.New(rand.NewSource(541))
	for i := range 500 {
		p, q := used(t, r), used(t, r)
		state := p.State()
		loads(t, q, state)
		had := len(p.Sent())
		for j := range 60 {
			c := anyAct(r)
			if c.name == "load" {
				continue
			}
			do(t, c.name, c.on(p))
			do(t, c.name, c.on(q))
			if !slices.Equal(seen(p), seen(q)) {
				t.Fatalf("P5.4: run %d, call %d, %v: %v, want %v", i, j, c, seen(q), seen(p))
			}
		}
		if s := p.Sent(); !slices.Equal(s[min(had, len(s)):], q.Sent()) {
			t.Fatalf("P5.4: run %d: Sent() = %v, want %v", i, q.Sent(), s[had:])
		}
	}
}
