package debug_test

import (
	"hash/crc32"
	"math/rand"
	"slices"
	"strconv"
	"strings"
	"testing"

	"arcade/api"
	"arcade/asm"
	"arcade/board"
	"arcade/cart"
	"arcade/debug"
)

// begin is the registers' line of a new machine.
const begin = "a=$01 f=$b0 b=$00 c=$13 d=$00 e=$d8 h=$01 l=$4d sp=$fffe pc=$0100 ime=0 state=running\n"

func is(t *testing.T, what string, got, want any) {
	t.Helper()
	if got != want {
		t.Errorf("%s = %v, want %v", what, got, want)
	}
}

// assembled is what a program makes, and where.
func assembled(t *testing.T, source string) api.Image {
	t.Helper()
	image, at, e := asm.Assemble(source)
	if e != api.OK {
		t.Fatalf("Assemble: %d in line %d of\n%s", e, at, source)
	}
	return image
}

// rom has a kind, a ROM's code and a RAM's code, and programs, each of which says by org where it lies; it begins at $150. What they leave free is 0.
func rom(t *testing.T, kind, code, ramCode byte, sources ...string) []byte {
	t.Helper()
	bytes := make([]byte, 32768<<code)
	copy(bytes[0x100:], []byte{0, 0xc3, 0x50, 0x01})
	bytes[0x147], bytes[0x148], bytes[0x149] = kind, code, ramCode
	for _, source := range sources {
		image := assembled(t, source)
		copy(bytes[image.Org:], image.Code)
	}
	for i := range 48 {
		bytes[0x104+i] = byte(7*i*i + 13*i + 206)
	}
	sum := byte(231)
	for _, b := range bytes[0x134:0x14d] {
		sum -= b
	}
	bytes[0x14d] = sum
	return bytes
}

// made is a board with a cartridge of these bytes; without bytes it has none.
func made(t *testing.T, bytes []byte) *board.Board {
	t.Helper()
	if bytes == nil {
		return board.New(nil)
	}
	c, e := cart.New(bytes, nil)
	if c == nil || e != api.OK {
		t.Fatalf("cart.New = %d", e)
	}
	return board.New(c)
}

func newOf(t *testing.T, b *board.Board) *debug.Debugger {
	t.Helper()
	d, e := debug.New(b)
	if d == nil || e != api.OK {
		t.Fatalf("Q1: New = %d", e)
	}
	return d
}

// game is a debugger, and its board, with a cartridge without a mapper that has these programs; the first instructions, which lead to $150, are done.
func game(t *testing.T, sources ...string) (*debug.Debugger, *board.Board) {
	t.Helper()
	b := made(t, rom(t, 0, 0, 0, sources...))
	for b.Regs().PC != 0x150 || !b.Boundary() {
		b.Cycle()
	}
	return newOf(t, b), b
}

// says holds that a line is answered so.
func says(t *testing.T, d *debug.Debugger, line, want string) {
	t.Helper()
	if s, e := d.Do(line); s != want || e != api.OK {
		t.Errorf("Do(%q) = %q, %d, want %q", line, s, e, want)
	}
}

// quiet does lines that have nothing to answer.
func quiet(t *testing.T, d *debug.Debugger, lines ...string) {
	t.Helper()
	for _, line := range lines {
		says(t, d, line, "")
	}
}

// does is the answer of a line that is none to be refused.
func does(t *testing.T, d *debug.Debugger, line string) string {
	t.Helper()
	s, e := d.Do(line)
	if e != api.OK {
		t.Fatalf("Do(%q) = %q, %d", line, s, e)
	}
	return s
}

// goes holds why a line stops, and how many cycles went by then; and some of the registers' line. It holds the answer's form, too.
func goes(t *testing.T, d *debug.Debugger, line, why string, cycles int, some ...string) {
	t.Helper()
	lines := strings.Split(does(t, d, line), "\n")
	many := len(lines)
	if many != 3 && !strings.HasPrefix(line, "trace") || lines[many-1] != "" || lines[many-2]+"\n" != does(t, d, "regs") {
		t.Errorf("Do(%q) = %q: not why, and the registers' line", line, lines)
		return
	}
	if lines[many-3] != why || d.Cycles() != cycles {
		t.Errorf("Do(%q): %q behind %d cycles, want %q behind %d", line, lines[many-3], d.Cycles(), why, cycles)
	}
	for _, x := range some {
		if !strings.Contains(" "+lines[many-2]+" ", " "+x+" ") {
			t.Errorf("Do(%q): %q, want %s", line, lines[many-2], x)
		}
	}
}

// refuses holds that each of the lines is refused with this error, and that nothing is done: the debugger goes on as if it had not heard of them.
func refuses(t *testing.T, d *debug.Debugger, b *board.Board, want api.Errno, lines ...string) {
	t.Helper()
	for _, line := range lines {
		was := allOf(d, b)
		if s, e := d.Do(line); s != "" || e != want {
			t.Errorf("Do(%q) = %q, %d, want %d", line, s, e, want)
		}
		if now := allOf(d, b); now != was {
			t.Errorf("Do(%q), which is refused, changes something", line)
		}
	}
}

// allOf is all that can be told of a debugger and its board.
func allOf(d *debug.Debugger, b *board.Board) string {
	points, _ := d.Do("points")
	return string(b.State()) + "|" + string(b.Sent()) + "|" + strconv.Itoa(d.Cycles()) + "|" + points + "|" + strconv.Itoa(len(d.Points()))
}

// alike holds two boards against each other, in all that they are.
func alike(t *testing.T, what string, a, b *board.Board) {
	t.Helper()
	if !slices.Equal(a.State(), b.State()) || !slices.Equal(a.Frame(), b.Frame()) || !slices.Equal(a.Save(), b.Save()) || a.Regs() != b.Regs() {
		t.Errorf("%s: two boards are not alike: %+v, and %+v", what, a.Regs(), b.Regs())
	}
	if !slices.Equal(a.Sent(), b.Sent()) {
		t.Errorf("%s: what two boards have sent is not alike: %d bytes, and %d", what, len(a.Sent()), len(b.Sent()))
	}
}

// ran lets so many cycles go by.
func ran(b *board.Board, cycles int) *board.Board {
	for range cycles {
		b.Cycle()
	}
	return b
}

// busy is a program that calls, halts, is interrupted by the timer, sends bytes, writes to memory, to a cartridge's RAM and its registers, and to the picture.
func busy(t *testing.T, kind, code, ramCode byte) []byte {
	t.Helper()
	return rom(t, kind, code, ramCode, `org $150
ld sp, $dffe
ld a, 5
ldh [$ff07], a
ld a, $e0
ldh [$ff06], a
ldh [$ff05], a
ld a, 4
ldh [$ffff], a
ei
ld a, 10
ld [$0000], a
loop: call count
rst $28
ld a, [$c000]
ldh [$ff01], a
ld [$a000], a
ldh [$ff47], a
ld [$2100], a
ld a, $81
ldh [$ff02], a
ld a, [$4000]
ld b, a
halt
ld a, b
and a, $7f
ld [hl+], a
jr loop
count: push hl
ld hl, $c000
inc [hl]
call nz, away
pop hl
ret
away: ld e, [hl]
ret
`, "org $28\ninc d\nret\n", `org $50
push af
ldh a, [$ff80]
inc a
ldh [$ff80], a
pop af
reti
`)
}

// roms are cartridges of each mapper, with and without RAM; nil: there is none.
func roms(t *testing.T) map[string][]byte {
	t.Helper()
	return map[string][]byte{
		"none":         nil,
		"no mapper":    busy(t, 0, 0, 0),
		"RAM alone":    busy(t, 9, 0, 2),
		"mapper 1":     busy(t, 3, 2, 3),
		"mapper 2":     busy(t, 6, 1, 0),
		"mapper 3":     busy(t, 0x13, 1, 3),
		"mapper 5":     busy(t, 0x1b, 3, 4),
		"no RAM of it": busy(t, 0x19, 1, 0),
	}
}

// crc is a check sum, as the library reckons it.
func crc(list []byte) int {
	return int(crc32.ChecksumIEEE(list))
}

// lot is numbers by lot.
func lot(seed int64) *rand.Rand {
	return rand.New(rand.NewSource(seed))
}
