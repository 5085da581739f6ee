package board_test

import (
	"math"
	"slices"
	"testing"

	"arcade/api"
	"arcade/asm"
	"arcade/board"
	"arcade/cart"
)

// Some addresses.
const (
	vram     = 0x8000
	ram      = 0xa000
	work     = 0xc000
	echo     = 0xe000
	oam      = 0xfe00
	gap      = 0xfea0
	keys     = 0xff00
	shift    = 0xff01
	line     = 0xff02
	divider  = 0xff04
	timer    = 0xff05
	again    = 0xff06
	control  = 0xff07
	requests = 0xff0f
	sound    = 0xff10
	lcdc     = 0xff40
	stat     = 0xff41
	lyc      = 0xff45
	mover    = 0xff46
	bgp      = 0xff47
	obp0     = 0xff48
	unused   = 0xff4c
	high     = 0xff80
	let      = 0xffff
)

// A frame in cycles.
const aFrame = 17556

// edges are the first and the last address of each row of 7.1's table, and their neighbours among the ports.
var edges = []int{
	0, 0x7fff, 0x8000, 0x9fff, 0xa000, 0xbfff, 0xc000, 0xdfff, 0xe000, 0xfdff, 0xfe00, 0xfe9f, 0xfea0, 0xfeff,
	0xff00, 0xff01, 0xff02, 0xff03, 0xff04, 0xff05, 0xff06, 0xff07, 0xff08, 0xff0e, 0xff0f,
	0xff10, 0xff3f, 0xff40, 0xff41, 0xff42, 0xff43, 0xff44, 0xff45, 0xff46, 0xff47, 0xff48, 0xff49, 0xff4a, 0xff4b,
	0xff4c, 0xff7f, 0xff80, 0xfffe, 0xffff,
}

// far are numbers that are beyond all bounds.
var far = []int{math.MinInt, math.MinInt + 0xc000, math.MinInt32, -65536, -0x4000, -256, -1, 1 << 24, 1<<32 + 0xc000, 1<<40 + 1, math.MaxInt32, math.MaxInt - 255, math.MaxInt}

// pattern is what stands at a place of a ROM, and what is filled in: neighbours and pages differ.
func pattern(i int) byte {
	return byte(i*37 + i>>8*11 + i>>14*101 + 3)
}

// rom has a kind, a ROM's code and a RAM's code, and programs, each of which says by org where it lies; it begins at $150.
func rom(t *testing.T, kind, code, ramCode byte, sources ...string) []byte {
	t.Helper()
	bytes := make([]byte, 32768<<code)
	for i := range bytes {
		bytes[i] = pattern(i)
	}
	copy(bytes[0x100:], []byte{0, 0xc3, 0x50, 0x01})
	for i := range 48 {
		bytes[0x104+i] = byte(7*i*i + 13*i + 206)
	}
	bytes[0x143], bytes[0x147], bytes[0x148], bytes[0x149] = 0, kind, code, ramCode
	sum := 231
	for _, b := range bytes[0x134:0x14d] {
		sum -= int(b)
	}
	bytes[0x14d] = byte(sum)
	for _, source := range sources {
		image := assembled(t, source)
		copy(bytes[image.Org:], image.Code)
	}
	return bytes
}

func assembled(t *testing.T, source string) api.Image {
	t.Helper()
	image, at, e := asm.Assemble(source)
	if e != api.OK {
		t.Fatalf("Assemble: %d in line %d of\n%s", e, at, source)
	}
	return image
}

// cartridge is one of these bytes.
func cartridge(t *testing.T, bytes []byte) *cart.Cart {
	t.Helper()
	c, e := cart.New(bytes, nil)
	if c == nil || e != api.OK {
		t.Fatalf("cart.New = %d", e)
	}
	return c
}

// made is a board with a cartridge of these bytes.
func made(t *testing.T, bytes []byte) *board.Board {
	t.Helper()
	return built(t, cartridge(t, bytes))
}

func built(t *testing.T, c *cart.Cart) *board.Board {
	t.Helper()
	b := board.New(c)
	if b == nil {
		t.Fatal("B1: New = nil")
	}
	return b
}

// game is a board with a cartridge without a mapper, that has these programs.
func game(t *testing.T, sources ...string) *board.Board {
	t.Helper()
	return made(t, rom(t, 0, 0, 0, sources...))
}

// rich is a cartridge's bytes with a mapper, four banks, and four banks of RAM with a battery.
func rich(t *testing.T, sources ...string) []byte {
	t.Helper()
	return rom(t, 0x1b, 1, 3, sources...)
}

func is(t *testing.T, what string, got, want any) {
	t.Helper()
	if got != want {
		t.Errorf("%s = %v, want %v", what, got, want)
	}
}

// poke has an address and a byte each.
func poke(t *testing.T, b *board.Board, list ...int) {
	t.Helper()
	for pair := range slices.Chunk(list, 2) {
		if e := b.Poke(pair[0], pair[1]); e != api.OK {
			t.Fatalf("B3: Poke(%04x, %d) = %d", pair[0], pair[1], e)
		}
	}
}

// peeks has an address and what is read there each.
func peeks(t *testing.T, which string, b *board.Board, list ...int) {
	t.Helper()
	for pair := range slices.Chunk(list, 2) {
		if v := b.Peek(pair[0]); v != pair[1] {
			t.Errorf("%s: Peek(%04x) = %02x, want %02x", which, pair[0], v, pair[1])
		}
	}
}

// put lays a program into memory.
func put(t *testing.T, b *board.Board, source string) {
	t.Helper()
	image := assembled(t, source)
	for i, v := range image.Code {
		poke(t, b, image.Org+i, int(v))
	}
}

func run(t *testing.T, b *board.Board, cycles int) {
	t.Helper()
	if e := b.Run(cycles); e != api.OK {
		t.Fatalf("B2: Run(%d) = %d", cycles, e)
	}
}

func set(t *testing.T, b *board.Board, r api.Regs) {
	t.Helper()
	if e := b.SetRegs(r); e != api.OK {
		t.Fatalf("B4: SetRegs(%+v) = %d", r, e)
	}
}

// still makes a board do nothing: it is halted, its picture is off, no interrupt is asked for or let.
func still(t *testing.T, b *board.Board) *board.Board {
	t.Helper()
	set(t, b, api.Regs{SP: 0xfffe, PC: 0x150, State: api.Halted})
	poke(t, b, let, 0, lcdc, 0, requests, 0)
	return b
}

// bare is a board without a cartridge that does nothing.
func bare(t *testing.T) *board.Board {
	t.Helper()
	return still(t, built(t, nil))
}

func load(t *testing.T, b *board.Board, state []byte) *board.Board {
	t.Helper()
	if e := b.Load(state); e != api.OK {
		t.Fatalf("B5: Load of %d bytes = %d", len(state), e)
	}
	return b
}

// table is the sprites' table, locked or not: it is read of a picture that is off, and then all is as it was.
func table(t *testing.T, b *board.Board) []byte {
	t.Helper()
	state := b.State()
	poke(t, b, lcdc, 0)
	var told []byte
	for addr := oam; addr < gap; addr++ {
		told = append(told, byte(b.Peek(addr)))
	}
	load(t, b, state)
	return told
}

// seen is what can be seen at all addresses.
func seen(b *board.Board) []byte {
	told := make([]byte, 65536)
	for addr := range told {
		told[addr] = byte(b.Peek(addr))
	}
	return told
}

// same tells whether two boards tell the same by all calls.
func same(t *testing.T, which string, a, b *board.Board) bool {
	t.Helper()
	alike := slices.Equal(a.State(), b.State()) && slices.Equal(seen(a), seen(b)) && slices.Equal(a.Frame(), b.Frame()) &&
		slices.Equal(a.Sent(), b.Sent()) && slices.Equal(a.Save(), b.Save()) && a.Regs() == b.Regs() && a.Boundary() == b.Boundary()
	if !alike {
		t.Errorf("%s: two boards are not alike: %+v, mover %v, and %+v, mover %v", which, a.Regs(), tail(a), b.Regs(), tail(b))
	}
	return alike
}

// tail is the mover's five bytes of a State.
func tail(b *board.Board) [5]byte {
	state := b.State()
	if len(state) < 5 {
		return [5]byte{}
	}
	return [5]byte(state[len(state)-5:])
}

// roomy is a list with spare room, all of it filled.
func roomy(list []byte) []byte {
	long := append(slices.Clone(list), slices.Repeat([]byte{0xa5}, 40)...)
	return long[:len(list)]
}

// spared tells whether a roomy list is as it was, its room too.
func spared(list, was []byte) bool {
	return slices.Equal(list, was) && slices.Equal(list[len(list):len(list)+40], slices.Repeat([]byte{0xa5}, 40))
}

// scratch writes over a list and its spare room.
func scratch(list []byte) {
	whole := list[:cap(list)]
	for i := range whole {
		whole[i] ^= 0xff
	}
}
