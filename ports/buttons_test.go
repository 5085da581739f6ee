package ports_test

import (
	"testing"

	"arcade/api"
	"arcade/ports"
)

// TestP52Keys: each button in each choice of rows, written out.
func TestP52Keys(t *testing.T) {
	for _, c := range []struct{ rows, down, want int }{
		{48, 255, 255},
		{32, 0, 239},
		{32, api.Right, 238}, {32, api.Left, 237}, {32, api.Up, 235}, {32, api.Down, 231},
		{32, api.KeyA | api.KeyB | api.Select | api.Start, 239},
		{16, 0, 223},
		{16, api.KeyA, 222}, {16, api.KeyB, 221}, {16, api.Select, 219}, {16, api.Start, 215},
		{16, api.Right | api.Left | api.Up | api.Down, 223},
		{0, 0, 207},
		{0, api.Right, 206}, {0, api.KeyA, 206}, {0, api.Right | api.KeyA, 206},
		{0, api.Left | api.Start, 197}, {0, 255, 192},
		{207, api.Up, 203}, // other bits than the rows' do not count
	} {
		p := ports.New()
		write(t, p, buttons, c.rows)
		press(t, p, c.down)
		reads(t, "P5.2", p, buttons, c.want)
		q := ports.New()
		press(t, q, c.down)
		write(t, q, buttons, c.rows)
		reads(t, "P5.2", q, buttons, c.want)
	}
}

// TestP52Rows: a change of the rows asks, where some key bit falls by it.
func TestP52Rows(t *testing.T) {
	for _, c := range []struct {
		down, from, to int
		asks           bool
	}{
		{1, 48, 32, true},
		{1, 48, 16, false},
		{1, 48, 0, true},
		{1, 32, 0, false},
		{1, 32, 48, false},
		{1, 0, 32, false},
		{1, 16, 32, true},
		{0x11, 32, 16, false}, // the same key bit, by another button
		{0x11, 16, 0, false},
		{0x21, 32, 16, true},
		{0x21, 32, 0, true},
		{0x21, 0, 16, false},
		{0, 48, 0, false},
		{255, 48, 48, false},
		{255, 48, 32, true},
		{0x80, 32, 16, true},
		{0x80, 16, 16, false},
	} {
		p := ports.New()
		press(t, p, c.down)
		write(t, p, buttons, c.from, requests, 0, buttons, c.to)
		want := 0
		if c.asks {
			want = 16
		}
		if p.Requests() != want {
			t.Errorf("P5.2: buttons %d, rows from %d to %d: Requests() = %d, want %d", c.down, c.from, c.to, p.Requests(), want)
		}
	}
}

// TestP52EachRow: all buttons, all changes of rows, with and without the request there.
func TestP52EachRow(t *testing.T) {
	p, m := ports.New(), newModel()
	fresh := p.State()
	for down := range 256 {
		for change := range 32 {
			state := changed(fresh, atButtons, down, atRows, change%4*16, atRequests, change/16*16)
			put(t, p, state)
			m.load(state)
			write(t, p, buttons, change/4%4*16)
			m.write(buttons, change/4%4*16)
			if !as(p, m) {
				t.Fatalf("P5.2: buttons %d, rows from %d to %d: %v, want %v", down, change%4*16, change/4%4*16, p.State(), m.state())
			}
		}
	}
}

// goesDown tells, by the promise's own words, whether some button goes down of which the row is selected, and whose key bit was 1.
func goesDown(rows, was, is int) bool {
	down := func(i int) bool { return was>>i&1 == 1 && rows>>(4+i/4)&1 == 0 }
	for i := range 8 {
		selected := rows>>(4+i/4)&1 == 0
		if is>>i&1 == 1 && was>>i&1 == 0 && selected && !down(i%4) && !down(4+i%4) {
			return true
		}
	}
	return false
}

// TestP56Press: all buttons that were down, all that are, all rows: the request is raised just where the promise says, and stays if it was there.
func TestP56Press(t *testing.T) {
	p := ports.New()
	for rows := 0; rows < 64; rows += 16 {
		for was := range 256 {
			for is := range 256 {
				press(t, p, was)
				write(t, p, buttons, rows, requests, 3)
				press(t, p, is)
				want := 3
				if goesDown(rows, was, is) {
					want = 19
				}
				if p.Requests() != want {
					t.Fatalf("P5.6: rows %d, Press(%d), Press(%d): Requests() = %d, want %d", rows, was, is, p.Requests(), want)
				}
			}
		}
	}
	write(t, p, buttons, 0, requests, 16)
	press(t, p, 0, 1, 0, 1, 3)
	asked(t, "P5.6", p, 16)
}

// TestP56Written: presses, written out.
func TestP56Written(t *testing.T) {
	for _, c := range []struct {
		rows, was, is int
		asks          bool
	}{
		{48, 0, 255, false},
		{32, 0, api.Down, true},
		{32, 0, api.Start, false},
		{16, 0, api.Start, true},
		{16, 0, api.Down, false},
		{32, api.Down, api.Down, false},
		{32, api.Down, 0, false},
		{32, api.Down, api.Down | api.Up, true},
		{32, api.Down, api.Up, true},
		{0, api.Down, api.Start, false}, // their key bit is one: it stays 0
		{0, api.Down, api.Start | api.Down, false},
		{32, api.Start, api.Start | api.Down, true}, // Start's row is not selected: the key bit was 1
		{16, api.Start, api.Start | api.Down, false},
		{0, 0x0f, 0xf0, false},
		{0, 0x07, 0xf0, true},
	} {
		p := ports.New()
		write(t, p, buttons, c.rows)
		press(t, p, c.was)
		take(t, p, api.AskButtons)
		press(t, p, c.is)
		want := 1
		if c.asks {
			want = 17
		}
		if p.Requests() != want {
			t.Errorf("P5.6: rows %d, Press(%d), Press(%d): Requests() = %d, want %d", c.rows, c.was, c.is, p.Requests(), want)
		}
	}
}

// TestP56Alone: buttons change nothing else, and clocks do not let them ask again.
func TestP56Alone(t *testing.T) {
	for i, state := range states(t) {
		p, m := loaded(t, state), newModel()
		m.load(state)
		for down := range 256 {
			press(t, p, down)
			m.press(down)
			if !as(p, m) {
				t.Fatalf("P5.6: state %d, Press(%d): %v, want %v", i, down, p.State(), m.state())
			}
		}
		take(t, p, api.AskButtons)
		step(t, p, 100000)
		press(t, p, 255)
		if p.Requests()&16 != 0 {
			t.Errorf("P5.6: state %d: the same buttons ask again", i)
		}
	}
}
