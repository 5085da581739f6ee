package asm_test

import (
	"fmt"
	"math"
	"math/rand"
	"strings"
	"sync"
	"testing"

	"arcade/api"
	"arcade/asm"
)

// farNumbers are far outside of all bounds, some with a low part that would be inside.
var farNumbers = []int{-1, -2, -255, -256, -65536, 256, 257, 511, 65536 * 65536, 1 << 32, 1<<32 + 6, 1 << 62, math.MaxInt, math.MaxInt - 1, math.MinInt, math.MinInt + 1}

// opText is one opcode as it is written out here: its text has N, S, E, W, and H (the n of ldh) in the place of its numbers.
type opText struct {
	text          string
	cycles, taken int
}

// firstOpcodes are those below 64, and those from 192 on, sixteen a row; an empty one is none.
const firstOpcodes = `
nop|ld bc, W|ld [bc], a|inc bc|inc b|dec b|ld b, N|rlca|ld [W], sp|add hl, bc|ld a, [bc]|dec bc|inc c|dec c|ld c, N|rrca
stop|ld de, W|ld [de], a|inc de|inc d|dec d|ld d, N|rla|jr E|add hl, de|ld a, [de]|dec de|inc e|dec e|ld e, N|rra
jr nz, E|ld hl, W|ld [hl+], a|inc hl|inc h|dec h|ld h, N|daa|jr z, E|add hl, hl|ld a, [hl+]|dec hl|inc l|dec l|ld l, N|cpl
jr nc, E|ld sp, W|ld [hl-], a|inc sp|inc [hl]|dec [hl]|ld [hl], N|scf|jr c, E|add hl, sp|ld a, [hl-]|dec sp|inc a|dec a|ld a, N|ccf
ret nz|pop bc|jp nz, W|jp W|call nz, W|push bc|add a, N|rst $00|ret z|ret|jp z, W||call z, W|call W|adc a, N|rst $08
ret nc|pop de|jp nc, W||call nc, W|push de|sub a, N|rst $10|ret c|reti|jp c, W||call c, W||sbc a, N|rst $18
ldh [H], a|pop hl|ldh [c], a|||push hl|and a, N|rst $20|add sp, S|jp hl|ld [W], a||||xor a, N|rst $28
ldh a, [H]|pop af|ldh a, [c]|di||push af|or a, N|rst $30|ld hl, sp+S|ld sp, hl|ld a, [W]|ei|||cp a, N|rst $38`

// firstCycles are the machine steps of the same opcodes, with the second number where there is one.
const firstCycles = `
1 3 2 2 1 1 2 1 5 2 2 2 1 1 2 1
2 3 2 2 1 1 2 1 3 2 2 2 1 1 2 1
2/3 3 2 2 1 1 2 1 2/3 2 2 2 1 1 2 1
2/3 3 2 2 3 3 3 1 2/3 2 2 2 1 1 2 1
2/5 3 3/4 4 3/6 4 2 4 2/5 4 3/4 0 3/6 6 2 4
2/5 3 3/4 0 3/6 4 2 4 2/5 4 3/4 0 3/6 0 2 4
3 3 2 0 0 4 2 4 4 1 4 0 0 0 2 4
3 3 2 1 0 4 2 4 3 2 4 1 0 0 2 4`

const registers = "b c d e h l [hl] a"

// writtenOnce has all 512 opcodes: those of the second table from 256 on.
var writtenOnce = sync.OnceValue(writtenOpcodes)

func writtenOpcodes() *[512]opText {
	var all [512]opText
	texts := strings.Split(strings.Join(strings.Split(strings.TrimSpace(firstOpcodes), "\n"), "|"), "|")
	cycles := strings.Fields(firstCycles)
	for i, text := range texts {
		code := i
		if i >= 64 {
			code += 128
		}
		once, twice, two := strings.Cut(cycles[i], "/")
		if !two {
			twice = once
		}
		all[code] = opText{text, 4 * int(once[0]-'0'), 4 * int(twice[0]-'0')}
	}
	middle(&all)
	second(&all)
	return &all
}

func middle(all *[512]opText) {
	code := 64
	for _, to := range strings.Fields(registers) {
		for _, from := range strings.Fields(registers) {
			all[code] = opText{"ld " + to + ", " + from, 4, 4}
			if (to == "[hl]") != (from == "[hl]") {
				all[code].cycles, all[code].taken = 8, 8
			} else if to == "[hl]" {
				all[code].text = "halt"
			}
			code++
		}
	}
	for _, does := range strings.Fields("add adc sub sbc and xor or cp") {
		for _, from := range strings.Fields(registers) {
			all[code] = opText{does + " a, " + from, 4, 4}
			if from == "[hl]" {
				all[code].cycles, all[code].taken = 8, 8
			}
			code++
		}
	}
}

func second(all *[512]opText) {
	code := 256
	add := func(ahead string, cyclesOfHL int) {
		for _, of := range strings.Fields(registers) {
			all[code] = opText{ahead + of, 8, 8}
			if of == "[hl]" {
				all[code].cycles, all[code].taken = cyclesOfHL, cyclesOfHL
			}
			code++
		}
	}
	for _, does := range strings.Fields("rlc rrc rl rr sla sra swap srl") {
		add(does+" ", 16)
	}
	for _, does := range []struct {
		word       string
		cyclesOfHL int
	}{{"bit", 12}, {"res", 16}, {"set", 16}} {
		for y := range 8 {
			add(fmt.Sprintf("%s %d, ", does.word, y), does.cyclesOfHL)
		}
	}
}

// size is how many bytes an opcode has: those of its number behind it.
func (o opText) size(code int) int {
	switch {
	case code >= 256, o.text == "stop", strings.ContainsAny(o.text, "NSEH"):
		return 2
	case strings.Contains(o.text, "W"):
		return 3
	}
	return 1
}

func mustAssemble(t *testing.T, source string) api.Image {
	t.Helper()
	m, line, e := asm.Assemble(source)
	if e != api.OK || line != 0 {
		t.Fatalf("Assemble(%q): line %d, error %d", source, line, e)
	}
	return m
}

// someBytes are drawn so that every run has the same ones.
func someBytes(r *rand.Rand, n int) []byte {
	b := make([]byte, n)
	for i := range b {
		b[i] = byte(r.Intn(256))
	}
	return b
}
