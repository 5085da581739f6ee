package debug_test

import (
	"fmt"
	"testing"

	"arcade/api"
	"arcade/board"
	"arcade/debug"
)

// Without a board there is no debugger; nor with one that no call made.
func TestQ1Nil(t *testing.T) {
	t.Parallel()
	for _, b := range []*board.Board{nil, {}} {
		if d, e := debug.New(b); d != nil || e != api.ErrArg {
			t.Errorf("New of no board = %v, %d", d != nil, e)
		}
	}
}

// A new one does nothing to a board that is at the first cycle of an instruction.
func TestQ1New(t *testing.T) {
	t.Parallel()
	for name, bytes := range roms(t) {
		b := made(t, bytes)
		d := newOf(t, b)
		alike(t, "Q1: New, "+name, b, made(t, bytes))
		is(t, "Cycles", d.Cycles(), 0)
		is(t, "points", len(d.Points()), 0)
		says(t, d, "regs", begin)
	}
}

// At whatever cycle a board is, it comes to the first one of an instruction, and these cycles are not counted. The debugger goes on with the very board.
func TestQ1Midst(t *testing.T) {
	t.Parallel()
	bytes := busy(t, 0, 0, 0)
	inside, dispatched := 0, 0
	for ahead := range 1500 {
		b, want := ran(made(t, bytes), ahead), ran(made(t, bytes), ahead)
		if !want.Boundary() {
			inside++
		}
		for !want.Boundary() {
			want.Cycle()
		}
		if want.Regs().PC == 0x50 {
			dispatched++
		}
		d := newOf(t, b)
		alike(t, fmt.Sprint("Q1: New behind ", ahead), b, want)
		says(t, d, "cycles", "0\n")
		does(t, d, "step")
		alike(t, fmt.Sprint("Q1: a step behind ", ahead), b, ran(want, d.Cycles()))
		if !b.Boundary() {
			t.Fatalf("Q1: behind a step the board is in the midst of an instruction")
		}
	}
	if inside < 500 || dispatched < 4 {
		t.Errorf("only %d boards were in the midst of an instruction, and %d in that of an interrupt", inside, dispatched)
	}
}

// Each cycle in which it is halted, stopped or locked is an instruction.
func TestQ1Rests(t *testing.T) {
	t.Parallel()
	for _, c := range []struct {
		code, why, state string
		first, pc        int
	}{
		{"halt", "done", "halted", 1, 0x151},
		{"db 16, 0", "done", "stopped", 2, 0x152},
		{"db 211", "locked", "locked", 1, 0x151},
		{"db 252", "locked", "locked", 1, 0x151},
	} {
		d, b := game(t, "org $150\nldh [$ff0f], a\n"+c.code+"\n")
		quiet(t, d, "poke $ff0f 0", "poke $ffff 0", "set pc $152")
		goes(t, d, "step", c.why, c.first, "state="+c.state, fmt.Sprintf("pc=$%04x", c.pc+2))
		for i := range 5 {
			goes(t, d, "step", c.why, c.first+1+i, "state="+c.state)
		}
		again := newOf(t, b)
		says(t, again, "cycles", "0\n")
		goes(t, again, "step", c.why, 1, "state="+c.state)
	}
}

// The cycles in which an interrupt is taken belong to the instruction ahead of them.
func TestQ1Interrupts(t *testing.T) {
	t.Parallel()
	d, _ := game(t, "org $150\nei\ninc a\ninc a\n", "org $50\nreti\n")
	quiet(t, d, "poke $ffff 4", "poke $ff0f 4")
	goes(t, d, "step", "done", 1, "pc=$0151", "ime=0")
	goes(t, d, "step", "done", 1+1+5, "pc=$0050", "ime=0", "a=$02", "sp=$fffc")
	goes(t, d, "step", "done", 7+4, "pc=$0152", "ime=1", "sp=$fffe")
	goes(t, d, "back 2", "done", 1, "pc=$0151", "ime=0")
	says(t, d, "trace 1", "$0151: inc a ; a=$02 f=$10 bc=$0013 de=$00d8 hl=$014d sp=$fffc\ndone\na=$02 f=$10 b=$00 c=$13 d=$00 e=$d8 h=$01 l=$4d sp=$fffc pc=$0050 ime=0 state=running\n")
}

// They belong to the cycle that ended a halt, too; without an interrupt that is taken this cycle is one by itself.
func TestQ1HaltEnds(t *testing.T) {
	t.Parallel()
	d, _ := game(t, "org $150\nhalt\ninc a\n", "org $50\nreti\n")
	quiet(t, d, "poke $ffff 4", "poke $ff0f 0", "set ime 1")
	goes(t, d, "step 3", "done", 3, "pc=$0151", "state=halted")
	quiet(t, d, "poke $ff0f 4")
	goes(t, d, "step", "done", 3+1+5, "pc=$0050", "ime=0", "state=running")
	goes(t, d, "step", "done", 9+4, "pc=$0151")

	d, _ = game(t, "org $150\nhalt\ninc a\n")
	quiet(t, d, "poke $ffff 4", "poke $ff0f 0")
	goes(t, d, "step 2", "done", 2, "state=halted")
	quiet(t, d, "poke $ff0f 4")
	goes(t, d, "step", "done", 3, "pc=$0151", "state=running")
	goes(t, d, "step", "done", 4, "pc=$0152", "a=$02")
}

// What is asked of an instruction holds of all of them: it has as many cycles as the board has up to the first one of the next.
func TestQ1Instructions(t *testing.T) {
	t.Parallel()
	for name, bytes := range roms(t) {
		b, want := made(t, bytes), made(t, bytes)
		d := newOf(t, b)
		cycles := 0
		for range 1500 {
			does(t, d, "step")
			want.Cycle()
			for cycles++; !want.Boundary(); cycles++ {
				want.Cycle()
			}
			if d.Cycles() != cycles || b.Regs() != want.Regs() {
				t.Fatalf("%s: a step comes to %d cycles, %+v, want %d, %+v", name, d.Cycles(), b.Regs(), cycles, want.Regs())
			}
		}
		alike(t, "Q1: behind 1500 steps, "+name, b, want)
	}
}

// A debugger's board has nothing to do with another one that was made alike.
func TestQ1Apart(t *testing.T) {
	t.Parallel()
	bytes := busy(t, 3, 1, 3)
	a, b, untouched := made(t, bytes), made(t, bytes), made(t, bytes)
	d, e := newOf(t, a), newOf(t, b)
	quiet(t, d, "set a 9", "poke $c000 7", "mark 0")
	says(t, d, "break $150", "point 1\n")
	goes(t, d, "run 100", "point 1", 5)
	alike(t, "R4: another one", b, untouched)
	is(t, "R4: its cycles", e.Cycles(), 0)
	is(t, "R4: its points", len(e.Points()), 0)
	refuses(t, e, b, api.ErrDebugPoint, "return 0", "delete 1")
	refuses(t, e, b, api.ErrDebugBack, "back 1")
}
