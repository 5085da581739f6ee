package console_test

import (
	"math/rand"
	"slices"
	"strconv"
	"sync"
	"testing"

	"arcade/api"
	"arcade/board"
	"arcade/console"
)

// twin is a second console: a board that counts all clocks since its start, and whose frames end at the first boundary behind so many times 70224 of them.
type twin struct {
	board  *board.Board
	clocks int
	ends   int
}

func (w *twin) frame(buttons int) api.Frame {
	began := w.clocks
	w.ends += 70224
	w.board.Press(buttons)
	for {
		w.board.Cycle()
		w.clocks += 4
		if w.clocks >= w.ends && w.board.Boundary() {
			break
		}
	}
	return api.Frame{Pixels: w.board.Frame(), Clocks: w.clocks - began, Carry: w.clocks - w.ends, Locked: w.board.Regs().State == api.Locked}
}

// bounds holds a frame against what N5 and N7 say, behind so many frames with so many clocks in all.
func bounds(t *testing.T, which string, f api.Frame, frames, sum int) {
	t.Helper()
	if f.Carry < 0 || f.Carry > 40 || f.Carry%4 != 0 {
		t.Errorf("N5: %s: the carry is %d", which, f.Carry)
	}
	if sum != 70224*frames+f.Carry {
		t.Errorf("N5: %s: %d frames have %d clocks, carry %d", which, frames, sum, f.Carry)
	}
	if f.Clocks > 70264 || f.Clocks < 70184 {
		t.Errorf("N7: %s: a frame has %d clocks", which, f.Clocks)
	}
}

// TestN5Twin: programs, and bytes drawn by lot, with buttons drawn by lot: each frame is that of a board that counts all clocks.
func TestN5Twin(t *testing.T) {
	r := rand.New(rand.NewSource(85))
	list := append(programs(t), first(t, 62, 1, 24, 252))
	for i := range 40 {
		list = append(list, wild(r, i%4 != 0))
	}
	for i, bytes := range list {
		which := "program " + strconv.Itoa(i)
		c, w := made(t, bytes), &twin{board: boardOf(t, bytes, nil)}
		for k := range 6 {
			buttons := r.Intn(256)
			f, g := frame(t, c, buttons), w.frame(buttons)
			if !alike(f, g) {
				t.Fatalf("N5: %s: frame %d has %d clocks, carry %d, locked %v; want %d, %d, %v, or other points", which, k, f.Clocks, f.Carry, f.Locked, g.Clocks, g.Carry, g.Locked)
			}
			bounds(t, which, f, k+1, w.clocks)
			if c.Regs() != w.board.Regs() || !slices.Equal(c.Save(), w.board.Save()) || !slices.Equal(c.State(), append([]byte{byte(g.Carry)}, w.board.State()...)) {
				t.Fatalf("N5: %s: behind frame %d a console is another one than its twin", which, k)
			}
		}
	}
}

// TestN5Long: the clocks of many frames: nothing of a carry is lost, or carried twice.
func TestN5Long(t *testing.T) {
	for _, x := range []struct {
		which string
		rom   []byte
	}{
		{"20 clocks a round", first(t, 62, 1, 24, 252)},
		{"calls with interrupts", rom(t, 3, 0, 3, ticking, handlers)},
		{"halted with interrupts", rom(t, 0, 0, 0, painting, asked, paints)},
	} {
		c := made(t, x.rom)
		sum := 0
		for i := range 150 {
			f := frame(t, c, i%2*255)
			sum += f.Clocks
			bounds(t, x.which, f, i+1, sum)
		}
	}
}

// buttonsAt are those of a frame by its number.
func buttonsAt(i int) int {
	return i * 89 % 256
}

// TestN6Replayed: from the state behind each frame another console goes on as the first one did.
func TestN6Replayed(t *testing.T) {
	const many = 8
	for i, bytes := range programs(t) {
		c := made(t, bytes)
		states := [][]byte{c.State()}
		var shown []api.Frame
		for k := range many {
			shown = append(shown, frame(t, c, buttonsAt(k)))
			states = append(states, c.State())
		}
		d := made(t, bytes)
		for from := many; from >= 0; from-- {
			load(t, d, states[from])
			for k := from; k < many; k++ {
				if f := frame(t, d, buttonsAt(k)); !alike(f, shown[k]) {
					t.Fatalf("N6: program %d from frame %d on: frame %d is another one", i, from, k)
				}
				if !slices.Equal(d.State(), states[k+1]) {
					t.Fatalf("N6: program %d from frame %d on: behind frame %d the state is another one", i, from, k)
				}
			}
			same(t, "N6: one that was replayed", c, d)
		}
	}
}

// TestN6Handed: a run that goes on in another console in each frame is the same run.
func TestN6Handed(t *testing.T) {
	for i, bytes := range programs(t) {
		whole, c := made(t, bytes), made(t, bytes)
		for k := range 8 {
			f, g := frame(t, whole, buttonsAt(k)), frame(t, c, buttonsAt(k))
			if !alike(f, g) {
				t.Fatalf("N6: program %d, handed on in each frame: frame %d is another one", i, k)
			}
			next := made(t, bytes)
			frames(t, next, 255, 0) // it was at something else
			c = load(t, next, c.State())
			is(t, "N6: Regs", c.Regs(), whole.Regs())
			if !slices.Equal(c.Save(), whole.Save()) {
				t.Errorf("N6: program %d: Save is another one", i)
			}
		}
		same(t, "N6: one that was handed on", whole, c)
	}
}

// TestN6Battery: what the battery keeps is in the state, and no save of the console that is loaded stays.
func TestN6Battery(t *testing.T) {
	bytes := rom(t, 0x1b, 1, 3, keeping, back)
	c := made(t, bytes)
	frames(t, c, 0, 0, 0)
	d := kept(t, bytes, slices.Repeat([]byte{0xee}, 32768))
	load(t, d, c.State())
	if !slices.Equal(d.Save(), c.Save()) {
		t.Error("N6: behind Load Save is another one")
	}
	frames(t, c, 0)
	frames(t, d, 0)
	if !slices.Equal(d.Save(), c.Save()) || d.Save()[3] != 4 {
		t.Error("N6: behind Load and a frame Save is another one")
	}
}

// TestN6Two: consoles by turns, and at the same time, have the frames that each has alone.
func TestN6Two(t *testing.T) {
	const many = 6
	list := programs(t)
	list = append(list, list[0], list[4]) // two of one ROM, too
	var alone, turns, beside []*console.Console
	for i, bytes := range list {
		alone, turns, beside = append(alone, made(t, bytes)), append(turns, made(t, bytes)), append(beside, made(t, bytes))
		for k := range many {
			frame(t, alone[i], buttonsAt(i+k))
		}
	}
	for k := range many {
		for i, c := range turns {
			frame(t, c, buttonsAt(i+k))
		}
	}
	var all sync.WaitGroup
	for i, c := range beside {
		all.Go(func() {
			for k := range many {
				c.Frame(buttonsAt(i + k))
			}
		})
	}
	all.Wait()
	for i := range list {
		same(t, "N6: by turns", alone[i], turns[i])
		same(t, "N6: beside others", alone[i], beside[i])
	}
}

// TestN7Filled: a ROM that is filled with one byte, whichever, delays nothing.
func TestN7Filled(t *testing.T) {
	for code := range 256 {
		bytes := slices.Repeat([]byte{byte(code)}, 32768)
		bytes[0x143], bytes[0x147], bytes[0x148], bytes[0x149] = 0, 0x13, 0, 2
		c := made(t, sealed(bytes))
		sum := 0
		for i := range 2 {
			f := frame(t, c, 255*i)
			sum += f.Clocks
			bounds(t, "a ROM of "+strconv.Itoa(code), f, i+1, sum)
			if locks(byte(code)) {
				is(t, "N7: Locked", f.Locked, true)
				is(t, "N7: Clocks", f.Clocks, 70224)
			}
		}
	}
}

// TestN7Rests: programs that loop, halt, stop or lock the processor, whatever interrupts are asked for.
func TestN7Rests(t *testing.T) {
	for _, let := range []string{"0", "31"} {
		for _, ime := range []string{"di", "ei"} {
			for _, rest := range []string{"jr @", "jp @", "halt\njr @ - 1", "stop\njr @ - 2", "db 211", "db 253", "rst $38", "call @"} {
				source := "org $150\nld sp, $fffe\nld a, " + let + "\nldh [$ffff], a\nld a, $78\nldh [$ff41], a\nld a, 5\nldh [$ff07], a\n" + ime + "\nnop\n" + rest + "\n"
				c := made(t, rom(t, 0, 0, 0, source, handlers))
				sum := 0
				for i := range 4 {
					f := frame(t, c, i%2*255)
					sum += f.Clocks
					bounds(t, rest+" with "+ime, f, i+1, sum)
				}
			}
		}
	}
}

// TestN7Locked: one that is locked stays so, and its picture stays.
func TestN7Locked(t *testing.T) {
	c := made(t, rom(t, 0, 0, 0, "org $150\nld a, 31\nldh [$ffff], a\nld a, 170\nldh [$ff47], a\nei\nnop\ndb 237\n", "org $40\njp $0150\n"))
	locked := 0
	for i := range 5 {
		f := frame(t, c, i*51)
		if f.Locked {
			locked++
			if !slices.Equal(f.Pixels, slices.Repeat([]byte{2}, thePoints)) {
				t.Errorf("N7: frame %d of one that is locked is not all 2", i)
			}
		}
		is(t, "N7: Locked by Regs", c.Regs().State == api.Locked, f.Locked)
	}
	is(t, "N7: frames that are locked", locked, 5)
}

// choosing switches a cartridge's RAM on, and picks a bank of it.
func choosing(pick, mode int) string {
	return "org $150\nld a, 10\nld [$0000], a\nld a, " + strconv.Itoa(pick) + "\nld [$4000], a\nld a, " + strconv.Itoa(mode) + "\nld [$6000], a\n"
}

// What may follow: bytes from 7 on are written to the bank's beginning; or nothing more is done.
const (
	writes = "ld hl, $a000\nld b, 0\nnext: ld a, b\nadd a, 7\nld [hl+], a\ninc b\njr nz, next\nloop: jr loop\n"
	rests  = "loop: jr loop\n"
)

// TestN8Kept: what the battery keeps is read by the next console, of each mapper; and without a battery nothing goes on.
func TestN8Kept(t *testing.T) {
	for i, x := range []struct {
		kind, ramCode byte
		pick, mode    int
		at            int // where it lies in the save
		kept, read    int // which bits are kept, and which ones are read besides
	}{
		{9, 2, 0, 0, 0, 0xff, 0},
		{3, 2, 0, 0, 0, 0xff, 0},
		{3, 3, 3, 1, 3 * 8192, 0xff, 0},
		{6, 0, 0, 0, 0, 0x0f, 0xf0},
		{0x13, 3, 2, 0, 2 * 8192, 0xff, 0},
		{0x1b, 4, 15, 0, 15 * 8192, 0xff, 0},
		{8, 2, 0, 0, 0, 0, 0},
		{2, 3, 1, 1, 0, 0, 0},
		{5, 0, 0, 0, 0, 0, 0xf0},
	} {
		c := made(t, rom(t, x.kind, 0, x.ramCode, choosing(x.pick, x.mode)+writes))
		frame(t, c, 0)
		save := c.Save()
		d := kept(t, rom(t, x.kind, 0, x.ramCode, choosing(x.pick, x.mode)+rests), save)
		frame(t, d, 0)
		is(t, "N8: something is kept", len(save) > 0, x.kept != 0)
		for k := range 256 {
			want := (k + 7) & x.kept
			if x.kept != 0 && int(save[x.at+k]) != want {
				t.Fatalf("N8: line %d: Save has %d at %d, want %d", i, save[x.at+k], k, want)
			}
			if v := peek(t, d, 0xa000+k); v != want|x.read {
				t.Fatalf("N8: line %d: the next console reads %d at %d, want %d", i, v, k, want|x.read)
			}
		}
		if !slices.Equal(d.Save(), save) {
			t.Errorf("N8: line %d: the next console's Save is another one", i)
		}
	}
}

// TestN8On: the same program goes on counting in the next console, and in the one behind that.
func TestN8On(t *testing.T) {
	bytes := rom(t, 0x1b, 1, 3, keeping, back)
	c := made(t, bytes)
	for i := 1; i <= 4; i++ {
		frames(t, c, 0, 0, 0)
		save := c.Save()
		for bank := range 4 {
			is(t, "N8: the count", int(save[bank*8192+3-bank]), 3*i)
		}
		c = kept(t, bytes, save)
		if !slices.Equal(c.Save(), save) {
			t.Error("N8: Save ahead of the first frame is not what was kept")
		}
	}
}
