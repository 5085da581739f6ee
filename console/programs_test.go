package console_test

import (
	"math/rand"
	"strconv"
	"testing"
)

// painting makes a tile anew when line 144 begins: all of it has the number that the frame has, from 1 on; what is drawn by it is seen behind the next frame.
const painting = `org $150
ld sp, $fffe
ld a, 1
ldh [$ffff], a
ld a, $e4
ldh [$ff47], a
xor a, a
ldh [$ff0f], a
ld c, a
ei
loop: halt
jr loop
`

const asked = "org $40\njp $0200\n"

const paints = `org $200
inc c
ld a, c
and a, 1
jr z, even
ld a, 255
even: ld d, a
ld a, c
and a, 2
jr z, less
ld a, 255
less: ld e, a
ld hl, $8000
ld b, 8
next: ld [hl], d
inc l
ld [hl], e
inc l
dec b
jr nz, next
reti
`

// reading keeps what it reads of the buttons, row by row, and counts what it has read in the picture's memory.
const reading = `org $150
ld hl, $c010
loop: ld a, $20
ldh [$ff00], a
ldh a, [$ff00]
ld [$c000], a
ld a, $10
ldh [$ff00], a
ldh a, [$ff00]
ld [$c001], a
ld [hl+], a
ld [$8000], a
res 4, h
jr loop
`

// waiting is halted until a button of the first row goes down, and counts how often.
const waiting = `org $150
ld sp, $fffe
ld a, $20
ldh [$ff00], a
ld a, 16
ldh [$ffff], a
xor a, a
ldh [$ff0f], a
ei
loop: halt
jr loop
`

const waited = "org $60\nld hl, $c000\ninc [hl]\nreti\n"

// ticking lets the timer go, and has interrupts of all kinds, on a stack that is never empty.
const ticking = `org $150
ld sp, $dff0
ld a, 31
ldh [$ffff], a
ld a, $f1
ldh [$ff06], a
ld a, 5
ldh [$ff07], a
ld a, $48
ldh [$ff41], a
xor a, a
ldh [$ff00], a
ei
loop: call deep
jr loop
deep: push bc
ld [$d000], sp
ldh a, [$ff05]
ldh [$ff43], a
ldh a, [$ff44]
cp a, 90
jr nz, .out
ldh a, [$ff02]
or a, $81
ldh [$ff02], a
.out: pop bc
ret
`

const handlers = `org $40
inc b
reti
ds 6
inc c
reti
ds 6
inc d
reti
ds 6
inc e
reti
ds 6
inc l
reti
`

// keeping counts frames in four banks of the cartridge's RAM (of mapper 5), each of them at another place.
const keeping = `org $150
ld sp, $fffe
ld a, 10
ld [$0000], a
ld a, 1
ldh [$ffff], a
xor a, a
ldh [$ff0f], a
ei
loop: halt
ld hl, $a000
ld b, 4
next: ld a, b
dec a
ld [$4000], a
inc [hl]
inc l
dec b
jr nz, next
jr loop
`

const back = "org $40\nreti\n"

// moving has the table of sprites moved again and again, by a program in HIGH.
const moving = `org $150
ld hl, code
ld c, $80
copy: ld a, [hl+]
ldh [c], a
inc c
ld a, c
cp a, $a0
jr nz, copy
ld a, $93
ldh [$ff40], a
jp $ff80
code: inc b
ld a, b
and a, $1f
or a, $c0
ldh [$ff46], a
ld a, 50
.left: dec a
jr nz, .left
ld a, b
ld [$c0a7], a
ldh a, [$ff04]
ld [$c001], a
jr code
`

// programs are cartridges of which each does something else.
func programs(t *testing.T) [][]byte {
	t.Helper()
	return [][]byte{
		rom(t, 0, 0, 0, painting, asked, paints),
		rom(t, 0, 0, 0, reading),
		rom(t, 1, 1, 0, waiting, waited),
		rom(t, 3, 0, 3, ticking, handlers),
		rom(t, 0x1b, 1, 3, keeping, back),
		rom(t, 6, 0, 0, moving),
	}
}

// delayed spends time ahead of what it comes to: it waits the times round, and leaps so far ahead of what stands at $280, over bytes 0.
func delayed(begin string, times, ahead int) string {
	return "org $150\n" + begin + "ld bc, " + strconv.Itoa(times) + "\nwait: dec bc\nld a, b\nor a, c\njr nz, wait\njp $280 - " + strconv.Itoa(ahead) + "\n"
}

// timed is a cartridge that comes to $280 when just so many cycles have gone by.
func timed(t *testing.T, cycles int, begin string, sources ...string) []byte {
	t.Helper()
	least := cyclesTo(t, rom(t, 0, 0, 0, append(sources, delayed(begin, 1, 0))...))
	more := cycles - least
	made := rom(t, 0, 0, 0, append(sources, delayed(begin, 1+more/7, more%7))...)
	if n := cyclesTo(t, made); n != cycles {
		t.Fatalf("a program comes to its place behind %d cycles, and not %d", n, cycles)
	}
	return made
}

// cyclesTo counts the cycles that a board has until it comes to $280.
func cyclesTo(t *testing.T, rom []byte) int {
	t.Helper()
	b := boardOf(t, rom, nil)
	for n := range 2 * aFrame {
		if b.Boundary() && b.Regs().PC == 0x280 {
			return n
		}
		b.Cycle()
	}
	t.Fatal("a program does not come to its place")
	return 0
}

// wild is a cartridge of which all free bytes are drawn by lot; where it is tame, none of them locks the processor.
func wild(r *rand.Rand, tame bool) []byte {
	bytes := make([]byte, 32768)
	for i := range bytes {
		bytes[i] = byte(r.Intn(256))
		for tame && locks(bytes[i]) {
			bytes[i] = byte(r.Intn(256))
		}
	}
	bytes[0x143], bytes[0x147], bytes[0x148], bytes[0x149] = 0, 0x13, 0, 2
	return sealed(bytes)
}

func locks(code byte) bool {
	switch code {
	case 211, 219, 221, 227, 228, 235, 236, 237, 244, 252, 253:
		return true
	}
	return false
}
