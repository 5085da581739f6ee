package board_test

import (
	"slices"
	"testing"

	"arcade/api"
	"arcade/board"
)

// filled is a board that does nothing, with other bytes in each page of WORK, and $ee in all of the table.
func filled(t *testing.T) *board.Board {
	t.Helper()
	b := bare(t)
	for i := range 0x2000 {
		poke(t, b, work+i, pageByte(work/256+i/256, i%256))
	}
	for i := range 160 {
		poke(t, b, oam+i, 0xee)
	}
	return b
}

// pageByte is the byte i of a page of a filled board's WORK: of 0 to 191.
func pageByte(page, i int) int {
	return (page*19 + i) % 192
}

// holds looks at the table: bytes of one page, and of another one from the first place on.
func holds(t *testing.T, which string, b *board.Board, old, oldMany, page, many int) {
	t.Helper()
	for i := range 160 {
		want := 0xee
		if i < many {
			want = pageByte(page, i)
		} else if i < oldMany {
			want = pageByte(old, i)
		}
		if v := b.Peek(oam + i); v != want {
			t.Fatalf("%s: the table's byte %d is %02x, want %02x", which, i, v, want)
		}
	}
}

// many is how many bytes of a move were moved of which the first one is moved in a cycle, once so many cycles have gone by.
func many(cycles, first int) int {
	return min(max(cycles-first, 0), 160)
}

// Test72Poke: a move that Poke asks for: nothing in two cycles, then one byte a cycle, 160 of them.
func Test72Poke(t *testing.T) {
	b := filled(t)
	for i := range 40 {
		b.Cycle()
		peeks(t, "7.2", b, oam+i, 0xee)
	}
	poke(t, b, mover, 0xc3)
	for cycles := range 200 {
		holds(t, "7.2", b, 0, 0, 0xc3, many(cycles, 2))
		b.Cycle()
	}
	peeks(t, "7.2", b, mover, 0xc3)
}

// Test72Write: a move that the processor asks for in the cycle n has its first byte in n + 2, by whatever instruction.
func Test72Write(t *testing.T) {
	for _, c := range []struct {
		source string
		r      api.Regs
		wrote  int // the cycle of the write
	}{
		{"org $ff90\nldh [$ff46], a\n", api.Regs{A: 0xc5, SP: 0xff00, PC: 0xff90}, 2},
		{"org $ff90\nldh [c], a\n", api.Regs{A: 0xc5, C: 0x46, SP: 0xff00, PC: 0xff90}, 1},
		{"org $ff90\nld [hl], a\n", api.Regs{A: 0xc5, H: 0xff, L: 0x46, SP: 0xff00, PC: 0xff90}, 1},
		{"org $ff90\nld [$ff46], a\n", api.Regs{A: 0xc5, SP: 0xff00, PC: 0xff90}, 3},
		{"org $ff90\nld [$ff46], sp\n", api.Regs{SP: 0x00c5, PC: 0xff90}, 3},
		{"org $ff90\nld [$ff45], sp\n", api.Regs{SP: 0xc500, PC: 0xff90}, 4},
		{"org $ff90\npush bc\n", api.Regs{B: 0xc5, SP: 0xff47, PC: 0xff90}, 2},
		{"org $ff90\npush bc\n", api.Regs{C: 0xc5, SP: 0xff48, PC: 0xff90}, 3},
	} {
		b := filled(t)
		put(t, b, c.source+"loop: jr loop\n")
		set(t, b, c.r)
		for cycles := range 200 {
			holds(t, "7.2: "+c.source, b, 0, 0, 0xc5, many(cycles, c.wrote+2))
			b.Cycle()
		}
		peeks(t, "7.2", b, mover, 0xc5)
	}
}

// Test72ReadAndWrite: an instruction that reads $ff46 and writes it back one more asks for a move from there.
func Test72ReadAndWrite(t *testing.T) {
	b := filled(t)
	poke(t, b, mover, 0xc6)
	run(t, b, 170)
	put(t, b, "org $ff90\ninc [hl]\nloop: jr loop\n")
	set(t, b, api.Regs{H: 0xff, L: 0x46, PC: 0xff90})
	for cycles := range 180 {
		holds(t, "7.2", b, 0xc6, 160, 0xc7, many(cycles, 4))
		b.Cycle()
	}
	peeks(t, "7.2", b, mover, 0xc7)
}

// Test72Anew: a move that is asked for by Poke at any time of another one: of that one the byte of the next cycle is still moved, if it has begun and one is left.
func Test72Anew(t *testing.T) {
	for at := range 170 {
		b := filled(t)
		poke(t, b, mover, 0xc1)
		run(t, b, at)
		poke(t, b, mover, 0xc2)
		peeks(t, "7.2", b, mover, 0xc2)
		for cycles := at; cycles < at+170; cycles++ {
			old := many(min(cycles, at+2), 2)
			if at < 2 {
				old = 0
			}
			holds(t, "7.2: anew by Poke", b, 0xc1, old, 0xc2, many(cycles, at+2))
			b.Cycle()
		}
	}
}

// Test72AnewWrite: and by the processor, in any cycle of another one: the last byte's too.
func Test72AnewWrite(t *testing.T) {
	for wrote := 2; wrote < 170; wrote++ {
		b := filled(t)
		poke(t, b, mover, 0xc1)
		run(t, b, wrote-2)
		put(t, b, "org $ff90\nldh [$ff46], a\nloop: jr loop\n")
		set(t, b, api.Regs{A: 0xd2, SP: 0xff00, PC: 0xff90})
		for cycles := wrote - 2; cycles < wrote+170; cycles++ {
			holds(t, "7.2: anew by a write", b, 0xc1, many(min(cycles, wrote+2), 2), 0xd2, many(cycles, wrote+2))
			b.Cycle()
		}
	}
}

// Test72Often: asked for again and again ahead of its time, a move never begins; the last one does.
func Test72Often(t *testing.T) {
	b := filled(t)
	for page := 0xc0; page < 0xe0; page++ {
		poke(t, b, mover, page)
		run(t, b, 1)
		holds(t, "7.2: asked for in each cycle", b, 0, 0, 0, 0)
	}
	for cycles := 1; cycles < 170; cycles++ {
		holds(t, "7.2: the last one", b, 0, 0, 0xdf, many(cycles, 2))
		b.Cycle()
	}
	poke(t, b, mover, 0xc1, mover, 0xc2, mover, 0xc3)
	run(t, b, 162)
	holds(t, "7.2: asked for thrice at once", b, 0, 0, 0xc3, 160)
	for range 100 { // each of them has its first byte, and its second one while the next one waits
		poke(t, b, mover, 0xc4)
		run(t, b, 2)
	}
	holds(t, "7.2: asked for in every second cycle", b, 0xc3, 160, 0xc4, 2)
}

// Test72From: from each page, of whatever memory; above $df from 32 pages ahead; with the picture off, and on.
func Test72From(t *testing.T) {
	bytes := rich(t)
	fresh := still(t, made(t, bytes))
	poke(t, fresh, 0, 10, 0x2000, 3, 0x4000, 2)
	for i := range 0x2000 {
		poke(t, fresh, vram+i, int(pattern(vram+i)), ram+i, int(pattern(ram+i)), work+i, int(pattern(work+i)))
	}
	for _, control := range []int{0, 0x91} {
		b := load(t, made(t, bytes), fresh.State())
		poke(t, b, lcdc, control)
		for v := range 256 {
			page := v
			if v > 0xdf {
				page = v - 0x20
			}
			want := make([]byte, 160)
			for i := range want {
				addr := page*256 + i
				want[i] = pattern(addr)
				if addr < 0x8000 {
					want[i] = bytes[addr+addr/0x4000*2*0x4000] // bank 3 in the place of bank 1
				}
			}
			poke(t, b, mover, v)
			run(t, b, 162)
			if got := table(t, b); !slices.Equal(got, want) {
				t.Fatalf("7.2: moved from %02x, LCDC %02x: %v, want %v", v, control, got, want)
			}
			is(t, "B5: the mover", tail(b), [5]byte{byte(v)})
		}
	}
}

// Test72Locked: each byte goes straight into the table and comes straight from the picture's memory, whatever is locked; while Peek and Poke do not get through.
func Test72Locked(t *testing.T) {
	for ahead := range 114 { // a move takes more than a line: so its bytes meet all modes
		b := bare(t)
		for i := range 160 {
			poke(t, b, vram+0x300+i, int(pattern(i)))
		}
		poke(t, b, lcdc, 0x80)
		run(t, b, ahead)
		poke(t, b, mover, 0x83)
		for k := range 162 {
			want := make([]byte, 160)
			for i := range k - 2 {
				want[i] = pattern(i)
			}
			if k%40 == 2 && !slices.Equal(table(t, b), want) {
				t.Fatalf("7.2: %d cycles of the frame ahead, in %d cycles: %v", ahead, k, table(t, b))
			}
			b.Cycle()
		}
	}
	b := bare(t)
	poke(t, b, vram, 9, lcdc, 0x80)
	run(t, b, 25)
	peeks(t, "7.2: mode 3", b, stat, 0x87, vram, 255, oam, 255)
	poke(t, b, mover, 0x80)
	run(t, b, 3)
	peeks(t, "7.2: mode 3", b, stat, 0x87, vram, 255, oam, 255)
	is(t, "7.2: the first byte in mode 3", table(t, b)[0], byte(9))
}

// Test72Unseen: of a cartridge what Read tells: $ff of RAM that is not seen, and where there is no cartridge.
func Test72Unseen(t *testing.T) {
	b := still(t, made(t, rich(t)))
	poke(t, b, 0, 10, ram, 7, 0, 0, mover, 0xa0)
	run(t, b, 162)
	peeks(t, "7.2: RAM that is off", b, oam, 255, oam+159, 255)
	b = bare(t)
	for _, v := range []int{0, 0x7f, 0xa0, 0xbf} {
		for i := range 160 {
			poke(t, b, oam+i, 1)
		}
		poke(t, b, mover, v)
		run(t, b, 162)
		for i := range 160 {
			peeks(t, "7.2: no cartridge", b, oam+i, 255)
		}
	}
	b = still(t, made(t, rom(t, 6, 0, 0)))
	poke(t, b, 0, 10, ram, 0x35, mover, 0xbe)
	run(t, b, 162)
	peeks(t, "7.2: RAM of half bytes", b, oam, 0xf5, oam+1, 0xf0)
}

// Test72WhenMoved: each byte is what is there when it is moved.
func Test72WhenMoved(t *testing.T) {
	bytes := rich(t)
	b := still(t, made(t, bytes))
	poke(t, b, mover, 0x41)
	for k := range 162 {
		poke(t, b, 0x2000, k%4) // another bank in each cycle
		b.Cycle()
	}
	for i := range 160 {
		peeks(t, "7.2: banks", b, oam+i, int(bytes[(i+2)%4*0x4000+0x100+i]))
	}
	poke(t, b, mover, 0xc0)
	for k := range 162 {
		for i := range 160 {
			poke(t, b, work+i, k)
		}
		b.Cycle()
	}
	for i := range 160 {
		peeks(t, "7.2: WORK", b, oam+i, i+2)
	}
}

// Test72Shut: in each cycle in which a byte is moved the processor reads $ff below $ff00, and from there on what is there.
func Test72Shut(t *testing.T) {
	for _, addr := range []int{0x0000, 0x0150, 0x7fff, 0x8000, 0x9fff, 0xa000, 0xc000, 0xdfff, 0xe000, 0xfdff, 0xfe00, 0xfe9f, 0xfeff, 0xff00, 0xff0f, 0xff10, 0xff42, 0xff46, 0xff80, 0xffff} {
		b := still(t, made(t, rich(t)))
		put(t, b, "org $ff90\nld a, [hl]\n")
		poke(t, b, 0, 10)
		for at := ram; at < oam+160; at++ {
			poke(t, b, at, 0x11)
		}
		poke(t, b, vram, 0x12, 0x9fff, 0x13, sound, 0x14, 0xff42, 0x15, high, 0x16, mover, 0xc0)
		start := b.State()
		for in := 1; in < 170; in++ { // the cycle of the read
			load(t, b, start)
			run(t, b, in-1)
			set(t, b, api.Regs{H: addr / 256, L: addr % 256, PC: 0xff90})
			run(t, b, 1)
			want := b.Peek(addr)
			if in >= 2 && in < 162 && addr < 0xff00 {
				want = 255
			}
			b.Cycle()
			if x := b.Regs().A; x != want {
				t.Fatalf("7.2: in the cycle %d the processor reads %02x at %04x, want %02x", in, x, addr, want)
			}
		}
	}
}

// Test72ShutWrites: and what it writes below $ff00 then comes to the same as a write to where there is nothing; from there on to the same as a Poke.
func Test72ShutWrites(t *testing.T) {
	for _, c := range [][2]int{{0x0000, 0}, {0x2000, 2}, {0x4000, 1}, {0x8000, 9}, {0x9fff, 9}, {0xa000, 9}, {0xbfff, 9}, {0xc000, 9}, {0xdfff, 9}, {0xe000, 9}, {0xfdff, 9}, {0xfe00, 9}, {0xfe9f, 9}, {0xff00, 0x10}, {0xff01, 9}, {0xff06, 9}, {0xff0f, 9}, {0xff10, 9}, {0xff3f, 9}, {0xff42, 9}, {0xff46, 9}, {0xff80, 9}, {0xffff, 9}} {
		addr, v := c[0], c[1]
		b, twin := still(t, made(t, rich(t))), made(t, rich(t))
		put(t, b, "org $ff90\nld [hl], a\n")
		poke(t, b, 0, 10, mover, 0x01)
		start := b.State()
		for _, in := range []int{1, 2, 3, 80, 159, 160, 161, 162, 163} { // the cycle of the write
			if shut := in >= 2 && in < 162; shut && addr < 0xff00 {
				aboutToWrite(t, twin, start, in, 0xfeff, v)
			} else {
				aboutToWrite(t, twin, start, in, addr, v)
				poke(t, twin, addr, v)
			}
			aboutToWrite(t, b, start, in, addr, v)
			b.Cycle()
			twin.Cycle()
			if !slices.Equal(visible(b), visible(twin)) {
				t.Fatalf("7.2: a write of %02x to %04x in the cycle %d", v, addr, in)
			}
		}
	}
}

// aboutToWrite makes a board be as it starts, let go on up to a cycle, in which its processor writes to an address.
func aboutToWrite(t *testing.T, b *board.Board, start []byte, in, addr, v int) {
	t.Helper()
	load(t, b, start)
	run(t, b, in-1)
	set(t, b, api.Regs{A: v, H: addr / 256, L: addr % 256, PC: 0xff90})
	run(t, b, 1)
}

// visible is all of a State but for the processor.
func visible(b *board.Board) []byte {
	state := b.State()
	return state[3+int(state[0]):]
}

// Test72Fetch: a program that lies below $ff00 itself reads $ff as its next opcode: a call of $38, whose pushes do nothing.
func Test72Fetch(t *testing.T) {
	b := game(t, "org $150\nld sp, $c100\nld a, $d0\nldh [$ff46], a\nloop: nop\njr loop\n", "org $38\nnop\n")
	run(t, b, 5+3+2+3)
	is(t, "7.2: the PC behind the write", b.Regs().PC, 0x157)
	run(t, b, 1)
	is(t, "7.2: the PC behind one NOP more", b.Regs().PC, 0x158)
	run(t, b, 4)
	is(t, "7.2: the PC behind what was read as $ff", b.Regs().PC, 0x38)
	is(t, "7.2: SP", b.Regs().SP, 0xc0fe)
	peeks(t, "7.2: what is pushed is lost", b, 0xc0ff, 0, 0xc0fe, 0)
	run(t, b, 4*39)
	is(t, "7.2: SP, 40 calls deep", b.Regs().SP, 0xc100-80)
	peeks(t, "7.2: what is pushed in the last of them comes behind the move", b, 0xc100-79, 0, 0xc100-80, 0)
	run(t, b, 1)
	is(t, "7.2: behind the move", b.Regs().PC, 0x39)
}

// Test72Wait: while a move is asked for and has not begun, nothing is shut.
func Test72Wait(t *testing.T) {
	b := game(t, "org $150\nld hl, $c000\nld a, $d0\nldh [$ff46], a\nld [hl], a\nloop: jr loop\n")
	run(t, b, 5+3+2+3)
	is(t, "7.2: the PC behind the write", b.Regs().PC, 0x157)
	run(t, b, 1) // reads the opcode
	b.Cycle()    // in this cycle the first byte is moved: so the write is lost
	peeks(t, "7.2", b, work, 0)
	b = game(t, "org $150\nld hl, $c000\nld a, $d0\nld [hl], a\n")
	run(t, b, 5+3+2)
	poke(t, b, mover, 0xd0)
	run(t, b, 2) // both cycles go by ahead of the first byte
	peeks(t, "7.2", b, work, 0xd0)
}

// Test72Looked: Peek and Poke are not shut, in the midst of a move.
func Test72Looked(t *testing.T) {
	b := still(t, made(t, rich(t)))
	poke(t, b, 0, 10, mover, 0xc0)
	run(t, b, 80)
	for _, addr := range []int{0x8000, 0x9fff, 0xa000, 0xbfff, 0xc000, 0xdfff, 0xe001, 0xfdff, 0xfe00, 0xfe9f} {
		poke(t, b, addr, 0x77)
		peeks(t, "B3: in the midst of a move", b, addr, 0x77)
	}
	poke(t, b, 0x2000, 2)
	peeks(t, "B3: in the midst of a move", b, 0x4000, int(pattern(0x8000)), 0x0101, 0xc3)
}

// Test72Standing: a move goes on whatever the processor does: halted, stopped, locked.
func Test72Standing(t *testing.T) {
	for _, state := range []int{api.Halted, api.Stopped, api.Locked} {
		b := filled(t)
		set(t, b, api.Regs{State: state})
		poke(t, b, mover, 0xc9)
		for cycles := range 170 {
			holds(t, "7.2: a processor that stands", b, 0, 0, 0xc9, many(cycles, 2))
			b.Cycle()
		}
	}
}
