package board_test

import (
	"strconv"
	"strings"
	"testing"
)

// loader copies a program from $200 to HIGH, where it can go on while bytes are moved, and goes on there.
const loader = `org $150
ld sp, $fffe
ld hl, $0200
ld de, $ff80
ld b, 100
copy: ld a, [hl+]
ld [de], a
inc e
dec b
jr nz, copy
jp $ff80
`

// handlers are of all interrupts: that of the timer counts.
const handlers = `org $40
reti
ds 7
reti
ds 7
inc b
reti
ds 6
reti
ds 7
reti
`

// inHigh is a program that the loader finds.
func inHigh(t *testing.T, source string) string {
	t.Helper()
	image := assembled(t, "org $ff80\n"+source)
	if len(image.Code) > 100 {
		t.Fatalf("a program of %d bytes has no place in HIGH", len(image.Code))
	}
	lines := []string{"org $200"}
	for _, b := range image.Code {
		lines = append(lines, "db "+strconv.Itoa(int(b)))
	}
	return strings.Join(lines, "\n") + "\n"
}

// busy has all kinds of things go on: the picture, the timer, bytes that are sent, RAM that is written, moves.
func busy(t *testing.T) []string {
	t.Helper()
	return []string{loader, handlers, inHigh(t, `ld a, 10
ld [$0000], a
ld a, 5
ldh [$ff07], a
ldh [$ffff], a
ei
ld hl, $a000
ld de, $8000
loop: inc [hl]
ld a, [hl+]
ld [de], a
inc e
ldh a, [$ff02]
bit 7, a
jr nz, .sends
ld a, e
ldh [$ff01], a
ld a, $81
ldh [$ff02], a
.sends: di
ld a, $a0
ldh [$ff46], a
ld a, 41
.left: dec a
jr nz, .left
ei
ld a, h
cp a, $c0
jr c, loop
ld h, $a0
jr loop
`)}
}

// drawing has the table of sprites moved once a frame by a program in HIGH, as games do: it is called when line 144 begins.
const drawing = `org $150
ld sp, $dfff
ld hl, move
ld de, $ff80
ld b, 10
copy: ld a, [hl+]
ld [de], a
inc e
dec b
jr nz, copy
ld a, 1
ldh [$ffff], a
xor a, a
ldh [$ff0f], a
ld a, $93
ldh [$ff40], a
ei
wait: halt
ld hl, $c100
ld b, 160
next: inc [hl]
inc l
dec b
jr nz, next
ldh a, [$ff04]
ld [$c000], a
jr wait
move: ld a, $c1
ldh [$ff46], a
ld a, 40
.left: dec a
jr nz, .left
ret
`

// drawingAsks is where line 144 leads; drawingMoved is where the program stands behind a move.
const (
	drawingAsks  = "org $40\npush af\ncall $ff80\npop af\nreti\n"
	drawingMoved = 0xff89
)

// turning counts up all of the picture's registers, the mover among them, and changes banks.
func turning(t *testing.T) []string {
	t.Helper()
	return []string{loader, inHigh(t, `ld hl, $ff40
loop: inc [hl]
inc l
ld a, l
and a, $4f
ld l, a
ld [$2000], a
ld a, [$4000]
add a, b
ld b, a
ldh [$ff05], a
jr loop
`)}
}

// asking is halted, until an interrupt comes, of whatever kind; and then moves something.
func asking(t *testing.T) []string {
	t.Helper()
	return []string{loader, handlers, "org $4000\npop bc\npush bc\nret\n", inHigh(t, `ld a, $1f
ldh [$ffff], a
ld a, 7
ldh [$ff07], a
ei
loop: halt
ldh a, [$ff44]
inc a
ldh [$ff45], a
ld a, $78
ldh [$ff41], a
push hl
call $4000
pop hl
di
ld a, $41
ldh [$ff46], a
ld a, 41
.left: dec a
jr nz, .left
ei
jr loop
`)}
}

// programs are cartridges of which each does something else.
func programs(t *testing.T) [][]byte {
	t.Helper()
	return [][]byte{
		rich(t, busy(t)...),
		rom(t, 0, 0, 0, drawing, drawingAsks),
		rom(t, 3, 1, 3, turning(t)...),
		rom(t, 0x13, 0, 2, asking(t)...),
	}
}
