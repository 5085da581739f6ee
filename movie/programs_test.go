package movie_test

import (
	"math/rand"
	"strconv"
	"testing"

	"arcade/api"
	"arcade/asm"
)

// rom has a kind, a ROM's code and a RAM's code, and programs, each of which says by org where it lies; it begins at $150. What they leave free is 0.
func rom(t *testing.T, kind, code, ramCode byte, sources ...string) []byte {
	t.Helper()
	bytes := make([]byte, 32768<<code)
	copy(bytes[0x100:], []byte{0, 0xc3, 0x50, 0x01})
	bytes[0x147], bytes[0x148], bytes[0x149] = kind, code, ramCode
	for _, source := range sources {
		image, at, e := asm.Assemble(source)
		if e != api.OK {
			t.Fatalf("Assemble: %d in line %d of\n%s", e, at, source)
		}
		copy(bytes[image.Org:], image.Code)
	}
	return sealed(bytes)
}

// sealed has the mark and the sum set right.
func sealed(bytes []byte) []byte {
	for i := range 48 {
		bytes[0x104+i] = byte(7*i*i + 13*i + 206)
	}
	sum := byte(231)
	for _, b := range bytes[0x134:0x14d] {
		sum -= b
	}
	bytes[0x14d] = sum
	return bytes
}

// painter has shades that hang on all buttons, on a seed, and on what stands at an address, where it counts on.
func painter(at string, seed int) string {
	return `org $150
ld a, 10
ld [$0000], a
loop: ld a, $20
ldh [$ff00], a
ldh a, [$ff00]
swap a
ld b, a
ld a, $10
ldh [$ff00], a
ldh a, [$ff00]
xor a, b
ld b, a
ld a, [` + at + `]
add a, b
add a, ` + strconv.Itoa(seed) + `
ld [` + at + `], a
ldh [$ff47], a
jr loop
`
}

// late counts frames at $c000, and writes to an address when there are so many. It has a bank of RAM that is picked.
func late(t *testing.T, limit int, at string, v int) []byte {
	t.Helper()
	return rom(t, 3, 0, 2, `org $150
ld sp, $fffe
ld a, 1
ldh [$ffff], a
xor a, a
ldh [$ff0f], a
ei
loop: halt
jr loop
`, "org $40\njp $0200\n", `org $200
ld a, [$c000]
inc a
ld [$c000], a
cp a, `+strconv.Itoa(limit)+`
jr nz, out
ld a, `+strconv.Itoa(v)+`
ld [`+at+`], a
out: reti
`)
}

// Where late writes: to what is seen in the picture at once, or to memory that no picture shows.
const (
	seen   = "$ff47"
	unseen = "$c001"
)

// lowering writes 0 to where some mappers have their bank's number then, and rests; mapper 1 takes no such state as mapper 5 has from then on.
const lowering = "org $150\nld a, 0\nld [$2000], a\nloop: jr loop\n"

// kept is bytes by lot that a battery might have kept, none of them above a bound.
func kept(many, bound int) []byte {
	draw := rand.New(rand.NewSource(int64(many)))
	save := make([]byte, many)
	for i := range save {
		save[i] = byte(draw.Intn(bound + 1))
	}
	return save
}

// cartridge is one, and perhaps what its battery has kept.
type cartridge struct {
	name      string
	rom, save []byte
}

// cartridges are of several kinds: without and with RAM, without and with a save, of several lengths.
func cartridges(t *testing.T) []cartridge {
	t.Helper()
	return []cartridge{
		{"no RAM", rom(t, 0, 0, 0, painter("$c000", 3)), nil},
		{"RAM without a battery", rom(t, 2, 1, 2, painter("$a000", 5)), nil},
		{"RAM without a save", rom(t, 3, 0, 2, painter("$a000", 7)), nil},
		{"a save", rom(t, 3, 0, 2, painter("$a000", 7)), kept(8192, 255)},
		{"a save of halves", rom(t, 6, 2, 0, painter("$a000", 9)), kept(512, 15)},
		{"a long save", rom(t, 0x1b, 0, 3, painter("$a000", 11)), kept(32768, 255)},
		{"one that locks", rom(t, 0, 0, 0, "org $150\ndb 211\n"), nil},
		{"one that counts", late(t, 3, seen, 85), nil},
	}
}

// plain is the cartridge that most tests have: it shows all buttons.
func plain(t *testing.T) []byte {
	t.Helper()
	return rom(t, 3, 0, 2, painter("$a000", 7))
}

// broken is ROMs that are none, each with its error.
func broken(t *testing.T) map[api.Errno][]byte {
	t.Helper()
	turned := func(at int, v byte, seal bool) []byte {
		bytes := plain(t)
		bytes[at] = v
		if seal {
			sealed(bytes)
		}
		return bytes
	}
	return map[api.Errno][]byte{
		api.ErrCartLength: plain(t)[:32767],
		api.ErrCartMark:   turned(0x104, 1, false),
		api.ErrCartSum:    turned(0x134, 77, false),
		api.ErrCartModel:  turned(0x143, 0xc0, true),
		api.ErrCartType:   turned(0x147, 4, true),
		api.ErrCartRom:    turned(0x148, 1, true),
		api.ErrCartRam:    turned(0x149, 5, true),
	}
}
