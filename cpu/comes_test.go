package cpu_test

import (
	"math/rand"
	"strings"
	"testing"

	"arcade/api"
	"arcade/asm"
)

// TestC10Cycles: all opcodes, with all flags, have as many cycles as chapter 2 says clocks.
func TestC10Cycles(t *testing.T) {
	for code := range 512 {
		second := code >= 256
		info, e := asm.Info(code&255, second)
		if e != api.OK {
			continue
		}
		for flags := 0; flags < 256; flags += 16 {
			m := newMachine(0x200, byte(code), 0, 3)
			if second {
				m.put(0x200, 203, byte(code))
			}
			m.set(t, api.Regs{F: flags, H: 0xc0, SP: 0xd000, PC: 0x200})
			many := m.instruction(t, 0)
			want := info.Cycles
			if holds(info.Text, flags) {
				want = info.Taken
			}
			if api.CycleClocks*many != want {
				t.Errorf("C10: %s with the flags %02x: %d cycles, want %d clocks", info.Text, flags, many, want)
			}
		}
	}
}

// holds tells whether an instruction's condition holds, by its text; one without has as many cycles either way.
func holds(text string, flags int) bool {
	_, rest, _ := strings.Cut(text, " ")
	cc, _, _ := strings.Cut(rest, ",")
	switch cc {
	case "nz":
		return flags&z == 0
	case "z":
		return flags&z != 0
	case "nc":
		return flags&c == 0
	}
	return flags&c != 0
}

// quiet are the opcodes that touch no memory, neither jump nor halt, and leave SP, under which the handlers' stack lies, as it is.
func quiet() [][]byte {
	var all [][]byte
	for code := range 512 {
		info, e := asm.Info(code&255, code >= 256)
		name, _, _ := strings.Cut(info.Text, " ")
		if e != api.OK || strings.Contains(info.Text, "[") || strings.HasPrefix(info.Text, "ld sp") || strings.HasPrefix(info.Text, "add sp") || info.Text == "inc sp" || info.Text == "dec sp" {
			continue
		}
		switch name {
		case "jp", "jr", "call", "ret", "reti", "rst", "push", "pop", "halt", "stop", "ei", "di":
			continue
		}
		bytes := make([]byte, info.Bytes)
		bytes[0] = byte(code)
		if code >= 256 {
			bytes[0], bytes[1] = 203, byte(code)
		}
		all = append(all, bytes)
	}
	return all
}

// runTo does cycles until PC is the end, and no interrupt is being taken there; it tells how many were taken. (One whose line is gone too early leads to 0, and by many a NOP to the first handler.)
func (m *machine) runTo(t *testing.T, end int, lines func() int) int {
	t.Helper()
	taken := 0
	for range 100000 {
		if m.Regs().PC == end && m.Boundary() {
			return taken
		}
		if _, bit := m.cycle(lines()); bit != 0 {
			taken++
		}
	}
	t.Fatal("C10: the program does not end")
	return 0
}

// TestC10Interrupts: a program comes to the same registers with interrupts, whose handlers are RETI alone, as without them.
func TestC10Interrupts(t *testing.T) {
	r := rand.New(rand.NewSource(12))
	codes := quiet()
	taken := 0
	for range 200 {
		var program []byte
		for range 60 {
			code := codes[r.Intn(len(codes))]
			program = append(program, code...)
			for i := len(program) - len(code) + 1; i < len(program) && code[0] != 203; i++ {
				program[i] = byte(r.Intn(256))
			}
		}
		regs := anyRegs(r)
		regs.PC, regs.SP, regs.IME = 0x200, 0xd000, true
		calm, busy := newMachine(0x200, program...), newMachine(0x200, program...)
		for place := 64; place < 104; place += 8 {
			busy.put(place, 217)
		}
		calm.set(t, regs)
		busy.set(t, regs)
		end := 0x200 + len(program)
		calm.runTo(t, end, func() int { return 0 })
		taken += busy.runTo(t, end, func() int { return r.Intn(32) & r.Intn(32) & r.Intn(32) })
		busy.regsAre(t, "C10: with interrupts", calm.Regs())
		for at := range busy.mem {
			if below := at < 0xd000 && at >= 0xcffe; !below && at >= 0x68 && busy.mem[at] != calm.mem[at] {
				t.Fatalf("C10: the byte at %#x is %d, not %d", at, busy.mem[at], calm.mem[at])
			}
		}
	}
	if taken == 0 {
		t.Error("C10: no interrupt was taken")
	}
}

// assembled is a machine with a program in its memory, that is about to run it.
func assembled(t *testing.T, source string) *machine {
	t.Helper()
	image, line, e := asm.Assemble(source)
	if e != api.OK {
		t.Fatalf("line %d: %d", line, e)
	}
	m := newMachine(image.Org, image.Code...)
	m.set(t, api.Regs{SP: 0xe000, PC: image.Org})
	return m
}

// untilHalt runs it; a program that goes on for too long is wrong.
func (m *machine) untilHalt(t *testing.T) int {
	t.Helper()
	for i := range 1000000 {
		if m.Regs().State == api.Halted {
			return i
		}
		m.cycle(0)
	}
	t.Fatalf("C5: no halt: %+v", m.Regs())
	return 0
}

func TestC10FirstExample(t *testing.T) {
	m := assembled(t, "org $200\nld a, 20\nadd a, 22\nhalt\n")
	for range 6 {
		m.cycle(0)
	}
	if r := m.Regs(); r.State != api.Halted || r.A != 42 || r.PC != 517 {
		t.Errorf("C5: %+v", r)
	}
}

// TestC5Product: by doubling and adding.
func TestC5Product(t *testing.T) {
	m := assembled(t, `org $150
	ld hl, 0
	ld d, 0
	ld b, 8
next: srl c
	jr nc, even
	add hl, de
even: sla e
	rl d
	dec b
	jr nz, next
	halt
`)
	for _, k := range [][2]int{{0, 0}, {1, 255}, {255, 255}, {12, 13}, {128, 2}, {37, 201}} {
		m.set(t, api.Regs{C: k[0], E: k[1], SP: 0xe000, PC: 0x150})
		m.untilHalt(t)
		if r := m.Regs(); r.H*256+r.L != k[0]*k[1] {
			t.Errorf("C5: %d * %d = %d", k[0], k[1], r.H*256+r.L)
		}
	}
}

// TestC5Calls: Fibonacci's numbers by calls within calls, and as a loop.
func TestC5Calls(t *testing.T) {
	m := assembled(t, `org $150
	call fib
	halt
fib: cp a, 2
	jr nc, .more
	ld h, 0
	ld l, a
	ret
.more: dec a
	push af
	call fib
	pop af
	push hl
	dec a
	call fib
	pop de
	add hl, de
	ret
`)
	a, b := 0, 1
	for i := range 13 {
		m.set(t, api.Regs{A: i, SP: 0xe000, PC: 0x150})
		m.untilHalt(t)
		if r := m.Regs(); r.H*256+r.L != a || r.SP != 0xe000 {
			t.Errorf("C5: the number %d is %d, not %d", i, r.H*256+r.L, a)
		}
		a, b = b, a+b
	}
}

// TestC5Decimal: sums of long decimal numbers, two digits a byte.
func TestC5Decimal(t *testing.T) {
	m := assembled(t, `org $150
	ld hl, $c000
	ld de, $c010
	ld b, 4
	and a, a
next: ld a, [de]
	adc a, [hl]
	daa
	ld [hl+], a
	inc e
	dec b
	jr nz, next
	halt
`)
	r := rand.New(rand.NewSource(13))
	for range 50 {
		x, y := r.Intn(1e8), r.Intn(1e8)
		for i, p := 0, 1; i < 4; i, p = i+1, p*100 {
			m.put(0xc000+i, byte(x/p%10+x/p/10%10*16))
			m.put(0xc010+i, byte(y/p%10+y/p/10%10*16))
		}
		m.set(t, api.Regs{SP: 0xe000, PC: 0x150})
		m.untilHalt(t)
		sum := 0
		for i := 3; i >= 0; i-- {
			b := int(m.mem[0xc000+i])
			sum = sum*100 + b/16*10 + b%16
		}
		if sum != (x+y)%1e8 || m.Regs().F&c != c*((x+y)/1e8) {
			t.Errorf("C5: %d + %d = %d, flags %02x", x, y, sum, m.Regs().F)
		}
	}
}

// TestC7Handler: a program that halts again and again is led on by its handlers.
func TestC7Handler(t *testing.T) {
	m := assembled(t, `org $40
	inc b
	reti
	org $50
	inc c
	reti
	org $150
	ei
loop: halt
	inc d
	jr loop
`)
	m.set(t, api.Regs{SP: 0xe000, PC: 0x150})
	taken := map[int]int{}
	raised := 0
	for i := range 3000 {
		if i%50 == 10 {
			raised |= 1
		}
		if i%120 == 60 {
			raised |= 4
		}
		_, bit := m.cycle(raised)
		raised &^= bit
		taken[bit]++
	}
	r := m.Regs()
	if taken[1] != 60 || taken[4] != 25 || r.B != 60 || r.C != 25 || r.D < 60 || r.D > 85 || r.State != api.Halted {
		t.Errorf("C7: taken %v, %+v", taken, r)
	}
}
