package debug_test

import (
	"fmt"
	"slices"
	"testing"

	"arcade/api"
	"arcade/board"
	"arcade/debug"
)

// reloaded is a board that has done so many cycles, and has taken its own state then: nothing was sent.
func reloaded(t *testing.T, bytes []byte, cycles int) *board.Board {
	t.Helper()
	b := ran(made(t, bytes), cycles)
	is(t, "Load", b.Load(b.State()), api.OK)
	return b
}

// ends is how many cycles go by up to each of so many instructions.
func ends(b *board.Board, many int) []int {
	list := []int{0}
	for range many {
		cycles := list[len(list)-1] + 1
		for b.Cycle(); !b.Boundary(); cycles++ {
			b.Cycle()
		}
		list = append(list, cycles)
	}
	return list
}

// To each instruction that was done it goes back, at once and one by one.
func TestQ4Back(t *testing.T) {
	t.Parallel()
	for name, bytes := range roms(t) {
		at := ends(made(t, bytes), 120)
		for _, stride := range []int{1, 2, 7, 60, 119, 120} {
			b := made(t, bytes)
			d := newOf(t, b)
			goes(t, d, "step 120", "done", at[120])
			for done := 120 - stride; done >= 0; done -= stride {
				goes(t, d, fmt.Sprint("back ", stride), "done", at[done])
				alike(t, fmt.Sprintf("Q4: %s, back to %d", name, done), b, reloaded(t, bytes, at[done]))
			}
		}
	}
}

// As far back as there is, and not one further; what was gone back behind is not done any more.
func TestQ4HowFar(t *testing.T) {
	t.Parallel()
	d, b := game(t, counting)
	refuses(t, d, b, api.ErrDebugBack, "back 1", "back 2", "back 10000")
	goes(t, d, "step 10", "done", 20)
	refuses(t, d, b, api.ErrDebugBack, "back 11", "back 10000")
	goes(t, d, "back 2", "done", 16)
	refuses(t, d, b, api.ErrDebugBack, "back 9", "back 10")
	goes(t, d, "back 3", "done", 9)
	refuses(t, d, b, api.ErrDebugBack, "back 6")
	goes(t, d, "back 5", "done", 0)
	refuses(t, d, b, api.ErrDebugBack, "back 1")
	says(t, d, "cycles", "0\n")
	goes(t, d, "step 3", "done", 5)
	refuses(t, d, b, api.ErrDebugBack, "back 4")
	goes(t, d, "back 3", "done", 0, "a=$01")
}

// Each of the ways to go on does instructions that it goes back behind.
func TestQ4Ways(t *testing.T) {
	t.Parallel()
	for line, many := range map[string]int{"step": 1, "step 9": 9, "run 20": 10, "trace 7": 7, "until $151": 1, "over": 1} {
		d, b := game(t, counting)
		does(t, d, line)
		refuses(t, d, b, api.ErrDebugBack, fmt.Sprint("back ", many+1))
		goes(t, d, fmt.Sprint("back ", many), "done", 0, "a=$01", "pc=$0150")
	}
	d, b := game(t, calling)
	goes(t, d, "over", "done", 45)
	refuses(t, d, b, api.ErrDebugBack, "back 17")
	goes(t, d, "back 15", "done", 6, "pc=$0160")
	goes(t, d, "out", "done", 45)
	goes(t, d, "back 16", "done", 0)
}

// Far back, over all the places that are kept, and round about each of them.
func TestQ4Far(t *testing.T) {
	t.Parallel()
	bytes := busy(t, 3, 1, 2)
	const many = 30000
	at := ends(made(t, bytes), many)
	draw := lot(3)
	for _, where := range []int{debug.PlaceEvery - 1, debug.PlaceEvery, debug.PlaceEvery + 1, 2 * debug.PlaceEvery, 5*debug.PlaceEvery + 1, many} {
		b := made(t, bytes)
		d := newOf(t, b)
		for left := where; left > 0; left -= min(left, 10000) {
			does(t, d, fmt.Sprint("step ", min(left, 10000)))
		}
		is(t, "cycles", d.Cycles(), at[where])
		for done := where; done > 0; {
			far := min(done, pick(draw, 1, 1, 2, done%debug.PlaceEvery+1, debug.PlaceEvery, draw.Intn(10000)+1, 10000))
			done -= far
			does(t, d, fmt.Sprint("back ", far))
			is(t, "cycles", d.Cycles(), at[done])
			alike(t, fmt.Sprintf("Q4: from %d back to %d", where, done), b, reloaded(t, bytes, at[done]))
			if draw.Intn(3) == 0 { // and onward again
				on := draw.Intn(3000) + 1
				does(t, d, fmt.Sprint("step ", on))
				does(t, d, fmt.Sprint("back ", on))
				is(t, "cycles", d.Cycles(), at[done])
			}
		}
		refuses(t, d, b, api.ErrDebugBack, "back 1")
		alike(t, "Q4: all the way back", b, reloaded(t, bytes, 0))
	}
}

// However long it goes on, few places are kept; and it goes back to the very first instruction. Behind a change none is.
func TestQ4FewPlaces(t *testing.T) {
	t.Parallel()
	d, b := game(t, counting)
	few := func() {
		if n := debug.Places(d); n > 14 {
			t.Fatalf("behind %d cycles %d places are kept", d.Cycles(), n)
		}
	}
	for range 20 {
		does(t, d, "run 200000")
		few()
	}
	if n := debug.Places(d); n < 7 {
		t.Errorf("behind so many instructions only %d places are kept", n)
	}
	for range 20 {
		does(t, d, "back 10000")
		few()
		does(t, d, "step 5000")
		few()
	}
	for d.Cycles() > 0 {
		does(t, d, "back 10000")
		few()
	}
	refuses(t, d, b, api.ErrDebugBack, "back 1")
	for _, line := range []string{"set a 1", "poke $c000 1", "press 1", "return 0"} {
		does(t, d, "step 10000")
		quiet(t, d, "mark 0", line)
		is(t, "places behind a change", debug.Places(d), 0)
	}
}

// Behind a change nobody goes back; behind all else one does.
func TestQ4Changes(t *testing.T) {
	t.Parallel()
	for _, line := range []string{"set a 1", "set pc $150", "set ime 0", "poke $c000 0", "poke 0 0", "poke $fea0 1", "press 0", "press 255", "return 1"} {
		d, b := game(t, counting)
		quiet(t, d, "mark 1")
		goes(t, d, "step 6", "done", 12)
		quiet(t, d, line)
		refuses(t, d, b, api.ErrDebugBack, "back 1", "back 6")
		was := d.Cycles()
		does(t, d, "step 2")
		refuses(t, d, b, api.ErrDebugBack, "back 3")
		goes(t, d, "back 2", "done", was)
	}
	for _, line := range []string{"", "regs", "mem 0", "list", "break 1", "watch $c000", "delete 1", "points", "mark 0", "mark 3", "sum", "sent", "cycles", "x", "set a 256", "set q 1", "poke 65536 1", "press 256", "return 2", "back 7", "step 0", "delete 9"} {
		d, _ := game(t, counting)
		goes(t, d, "step 6", "done", 12)
		does(t, d, "break 9")
		d.Do(line)
		goes(t, d, "back 6", "done", 0, "a=$01")
	}
}

// Where it goes back to, watches know what stands there, and all points stay.
func TestQ4Points(t *testing.T) {
	t.Parallel()
	d, _ := game(t, "org $150\nld hl, $c000\ninc [hl]\njr @-1\n")
	quiet(t, d, "poke $c001 7")
	says(t, d, "watch $c001", "point 1\n")
	goes(t, d, "step 4", "done", 3+3+3+3)
	says(t, d, "watch $c000", "point 2\n") // later than where it goes back to
	says(t, d, "break $153", "point 3\n")
	says(t, d, "points", "1 watch $c001 $07\n2 watch $c000 $02\n3 break $0153\n")
	goes(t, d, "back 1", "done", 9, "pc=$0153")
	says(t, d, "points", "1 watch $c001 $07\n2 watch $c000 $01\n3 break $0153\n")
	goes(t, d, "step", "point 2", 12)
	goes(t, d, "back 3", "done", 3)
	says(t, d, "points", "1 watch $c001 $07\n2 watch $c000 $00\n3 break $0153\n")
	quiet(t, d, "mark 0")
	goes(t, d, "run 100", "point 2", 6)
	quiet(t, d, "delete 3", "return 0")
	says(t, d, "points", "1 watch $c001 $07\n2 watch $c000 $00\n")
	goes(t, d, "run 100", "point 2", 6)
	goes(t, d, "run 100", "point 2", 12)

	// A watch that was changed by a line, and not hit yet, is known where it is gone back to.
	d, _ = game(t, counting)
	says(t, d, "watch $c000", "point 1\n")
	quiet(t, d, "mark 0", "poke $c000 9", "mark 1")
	says(t, d, "points", "1 watch $c000 $00\n")
	quiet(t, d, "return 1")
	says(t, d, "points", "1 watch $c000 $09\n")
	goes(t, d, "step 2", "done", 4)
	quiet(t, d, "return 0")
	says(t, d, "points", "1 watch $c000 $00\n")
	goes(t, d, "step 2", "done", 4)
}

// Where it goes back to nothing was sent; what was sent is sent again onward.
func TestQ4Sent(t *testing.T) {
	t.Parallel()
	d, b := game(t, "org $150\nld a, $41\nldh [$ff01], a\nld a, $81\nldh [$ff02], a\njr @\n")
	quiet(t, d, "mark 0")
	goes(t, d, "run 2000", "done", 2002)
	says(t, d, "sent", "41\n")
	quiet(t, d, "mark 1")
	says(t, d, "sent", "41\n") // a mark is no change
	goes(t, d, "back 1", "done", 1999)
	says(t, d, "sent", "\n")
	is(t, "bytes that were sent", len(b.Sent()), 0)
	goes(t, d, "step", "done", 2002)
	says(t, d, "sent", "\n")
	goes(t, d, "back 400", "done", 802)
	goes(t, d, "run 400", "done", 1204)
	says(t, d, "sent", "41\n")
	quiet(t, d, "return 1")
	says(t, d, "sent", "\n")
	quiet(t, d, "return 0")
	goes(t, d, "run 1100", "done", 1102)
	says(t, d, "sent", "41\n")
	refuses(t, d, b, api.ErrDebugPoint, "return 2")
	refuses(t, d, b, api.ErrDebugBack, "back 5000")
	says(t, d, "sent", "41\n")
}

// What is kept stays what it was, whatever is done later.
func TestQ4Marks(t *testing.T) {
	t.Parallel()
	bytes := busy(t, 0x13, 1, 3)
	b := made(t, bytes)
	d := newOf(t, b)
	refuses(t, d, b, api.ErrDebugPoint, "return 0", "return 1", "return 2", "return 3")
	at := ends(made(t, bytes), 700)
	goes(t, d, "step 100", "done", at[100])
	quiet(t, d, "mark 2")
	goes(t, d, "step 200", "done", at[300])
	quiet(t, d, "mark 0")
	goes(t, d, "back 250", "done", at[50]) // ahead of both
	refuses(t, d, b, api.ErrDebugPoint, "return 1", "return 3")
	goes(t, d, "step", "done", at[51])
	quiet(t, d, "return 2")
	says(t, d, "cycles", fmt.Sprintf("%d\n", at[100]))
	alike(t, "Q4: return 2", b, reloaded(t, bytes, at[100]))
	refuses(t, d, b, api.ErrDebugBack, "back 1")
	goes(t, d, "step 30", "done", at[130])
	goes(t, d, "back 30", "done", at[100])
	quiet(t, d, "poke $c000 77", "set b 9", "press 255", "return 0")
	alike(t, "Q4: return 0", b, reloaded(t, bytes, at[300]))
	goes(t, d, "step 400", "done", at[700])
	alike(t, "Q4: onward from it", b, ran(reloaded(t, bytes, at[300]), at[700]-at[300]))
	quiet(t, d, "mark 2", "return 0", "return 2", "return 2")
	alike(t, "Q4: kept anew", b, reloaded(t, bytes, at[700]))
	quiet(t, d, "return 0", "return 0")
	is(t, "cycles", d.Cycles(), at[300])
}

// A mark is of one debugger alone, and of the machine as it was then.
func TestQ4MarkAtOnce(t *testing.T) {
	t.Parallel()
	d, b := game(t, counting)
	was := b.State()
	quiet(t, d, "mark 0", "mark 1", "mark 2", "mark 3")
	is(t, "the board behind marks", slices.Equal(b.State(), was), true)
	quiet(t, d, "return 3")
	is(t, "the board behind a return", slices.Equal(b.State(), was), true)
	for _, k := range []int{3, 0, 2, 1} {
		quiet(t, d, fmt.Sprintf("set c %d", k), fmt.Sprintf("mark %d", k))
	}
	for k := range 4 {
		quiet(t, d, fmt.Sprintf("return %d", k))
		is(t, "what was kept", b.Regs().C, k)
	}
}

// Back from where it was halted, stopped or locked, and from within an interrupt.
func TestQ4Rests(t *testing.T) {
	t.Parallel()
	d, _ := game(t, "org $150\nhalt\ninc a\ndb 211\n", "org $50\ndec b\nreti\n")
	quiet(t, d, "poke $ffff 4", "poke $ff0f 0", "poke $ff06 $fe", "poke $ff05 $fe", "poke $ff07 5", "set ime 1")
	text := does(t, d, "trace 100")
	is(t, "it ends", text[len(text)-len("locked\n"):], "locked\n")
	line := does(t, d, "regs")
	cycles := d.Cycles()
	for n := 1; n <= 10; n++ {
		does(t, d, fmt.Sprint("back ", n))
		does(t, d, fmt.Sprintf("step %d", n))
		is(t, "the registers", does(t, d, "regs"), line)
		is(t, "the cycles", d.Cycles(), cycles)
	}
	goes(t, d, "step 5", "locked", cycles+1)
	goes(t, d, "back 2", "done", cycles-1, "state=running")
}
