package cpu_test

import (
	"fmt"
	"strings"

	"arcade/alu"
	"arcade/api"
	"arcade/asm"
)

// model is a second processor, made another way: it does an instruction in one go, by the text that chapter 2 has for it, and writes down what each cycle wants, and how things stand behind it.
type model struct {
	regs  api.Regs
	mem   *[65536]byte
	lines []int // at the end of each cycle
	log   []event
	began api.Regs // as the instruction began
	pc    int      // the next byte of it
	due   bool
	twice bool
}

// event is a cycle, and what is told behind it.
type event struct {
	want     api.Want
	taken    int
	regs     api.Regs
	boundary bool
}

func (e event) String() string {
	return fmt.Sprintf("%+v, taken %d, %+v, boundary %v", e.want, e.taken, e.regs, e.boundary)
}

// run does cycles while there are lines; the last instruction may have some more.
func (m *model) run() {
	most := len(m.lines)
	m.lines = append(m.lines, make([]int, 20)...)
	for len(m.log) < most {
		m.began = m.regs
		if m.regs.State != api.Running {
			m.rest()
		} else {
			m.instruction()
		}
	}
	m.log = m.log[:most]
}

func (m *model) cycle(want api.Want) {
	m.log = append(m.log, event{want: want, regs: m.began})
}

// line tells the lines at the end of the last cycle.
func (m *model) line() int {
	return m.lines[len(m.log)-1] & 31
}

func (m *model) idle() { m.cycle(api.Want{}) }

func (m *model) read(at int) int {
	at &= 0xffff
	m.cycle(api.Want{Kind: api.Read, Addr: at})
	return int(m.mem[at])
}

func (m *model) write(at int, v int) {
	at &= 0xffff
	m.cycle(api.Want{Kind: api.Write, Addr: at, Data: v})
	m.mem[at] = byte(v)
}

func (m *model) next() int {
	v := m.read(m.pc)
	m.pc = (m.pc + 1) & 0xffff
	return v
}

func (m *model) nextWord() int {
	low := m.next()
	return low + 256*m.next()
}

func (m *model) offset() int {
	e := m.next()
	if e > 127 {
		e -= 256
	}
	return e
}

// end puts down how things stand behind the last cycle, and does a dispatch, if one follows.
func (m *model) end() {
	last := &m.log[len(m.log)-1]
	last.regs = m.regs
	if m.regs.State == api.Running && m.regs.IME && m.line() != 0 {
		m.dispatch()
		return
	}
	last.boundary = true
}

func (m *model) rest() {
	m.idle()
	if m.line() != 0 && m.regs.State != api.Locked {
		m.regs.State = api.Running
	}
	m.end()
}

func (m *model) dispatch() {
	m.began = m.regs
	m.idle()
	m.idle()
	m.push(m.regs.PC)
	asked := m.line()
	m.idle()
	last := &m.log[len(m.log)-1]
	m.regs.PC, m.regs.IME = 0, false
	for k := 4; k >= 0; k-- {
		if asked>>k&1 == 1 {
			m.regs.PC, last.taken = 64+8*k, 1<<k
		}
	}
	last.regs, last.boundary = m.regs, true
}

func (m *model) instruction() {
	m.pc = m.regs.PC
	code := m.next()
	if m.twice {
		m.pc = m.regs.PC
	}
	m.twice = false
	due := m.due
	m.due = false
	info, e := asm.Info(code, false)
	if code == 203 {
		info, e = asm.Info(m.next(), true)
	}
	text := info.Text
	if e != api.OK {
		text = "lock"
	}
	m.do(text)
	m.regs.PC = m.pc
	if due && text != "di" {
		m.regs.IME, m.due = true, false
	}
	if m.regs.State == api.Halted && m.line() != 0 {
		m.twice = !m.regs.IME
	}
	if m.regs.State < api.Locked && m.line() != 0 {
		m.regs.State = api.Running
	}
	m.end()
}

func (m *model) do(text string) {
	name, rest, _ := strings.Cut(text, " ")
	args := strings.Split(rest, ", ")
	switch name {
	case "nop":
	case "lock":
		m.regs.State = api.Locked
	case "halt":
		m.regs.State = api.Halted
	case "stop":
		m.next()
		m.regs.State = api.Stopped
	case "di":
		m.regs.IME = false
	case "ei":
		m.due = !m.regs.IME
	case "ld", "ldh":
		m.load(args[0], args[1])
	case "push":
		m.idle()
		m.push(m.pair(args[0]))
	case "pop":
		m.setPair(args[0], m.pop())
	case "jp", "jr", "call", "ret", "reti", "rst":
		m.jump(name, args)
	case "inc", "dec":
		m.step(name, args[0])
	default:
		m.reckon(name, args)
	}
}

func (m *model) jump(name string, args []string) {
	holds := true
	if name == "ret" && args[0] != "" {
		m.idle()
	}
	for i, cc := range []string{"nz", "z", "nc", "c"} {
		if args[0] == cc {
			set := m.regs.F&(128>>(i/2*3)) != 0
			holds = set == (i%2 == 1)
			args = append(args[1:], "")
		}
	}
	goal := 0
	switch args[0] {
	case "w":
		goal = m.nextWord()
	case "e":
		e := m.offset()
		goal = (m.pc + e) & 0xffff
	case "hl":
		m.pc = m.pair("hl")
		return
	}
	if !holds {
		return
	}
	switch name {
	case "rst":
		fmt.Sscanf(args[0], "$%x", &goal)
		m.idle()
		m.push(m.pc)
	case "call":
		m.idle()
		m.push(m.pc)
	case "ret", "reti":
		goal = m.pop()
		m.idle()
		m.regs.IME = m.regs.IME || name == "reti"
	default:
		m.idle()
	}
	m.pc = goal
}

func (m *model) push(w int) {
	m.write(m.regs.SP-1, w>>8)
	m.write(m.regs.SP-2, w&255)
	m.regs.SP = (m.regs.SP - 2) & 0xffff
}

func (m *model) pop() int {
	low := m.read(m.regs.SP)
	high := m.read(m.regs.SP + 1)
	m.regs.SP = (m.regs.SP + 2) & 0xffff
	return high*256 + low
}

// register is a place for one byte, if the text names a register.
func (m *model) register(text string) *int {
	r := &m.regs
	return map[string]*int{"a": &r.A, "f": &r.F, "b": &r.B, "c": &r.C, "d": &r.D, "e": &r.E, "h": &r.H, "l": &r.L}[text]
}

func (m *model) pair(text string) int {
	if text == "sp" {
		return m.regs.SP
	}
	return 256**m.register(text[:1]) + *m.register(text[1:])
}

func (m *model) setPair(text string, w int) {
	w &= 0xffff
	if text == "sp" {
		m.regs.SP = w
		return
	}
	*m.register(text[:1]), *m.register(text[1:]) = w/256, w%256
	m.regs.F = m.regs.F / 16 * 16
}

// place tells the address of what stands in square brackets.
func (m *model) place(text string) int {
	switch text {
	case "[n]":
		return 65280 + m.next()
	case "[c]":
		return 65280 + m.regs.C
	case "[w]":
		return m.nextWord()
	case "[hl+]":
		at := m.pair("hl")
		m.setPair("hl", at+1)
		return at
	case "[hl-]":
		at := m.pair("hl")
		m.setPair("hl", at-1)
		return at
	}
	return m.pair(strings.Trim(text, "[]"))
}

func (m *model) get(text string) int {
	if r := m.register(text); r != nil {
		return *r
	}
	if text == "n" {
		return m.next()
	}
	return m.read(m.place(text))
}

func (m *model) put(text string, v int) {
	if r := m.register(text); r != nil {
		*r = v
		return
	}
	m.write(m.place(text), v)
}

func (m *model) load(to, from string) {
	switch {
	case from == "w":
		m.setPair(to, m.nextWord())
	case to == "sp":
		m.idle()
		m.regs.SP = m.pair("hl")
	case from == "sp":
		at := m.nextWord()
		m.write(at, m.regs.SP&255)
		m.write(at+1, m.regs.SP>>8)
	case from == "sp+s":
		w, f := alu.AddOffset(uint16(m.regs.SP), byte(m.next()))
		m.idle()
		m.setPair("hl", int(w))
		m.regs.F = int(f)
	default:
		m.put(to, m.get(from))
	}
}

func (m *model) step(name, arg string) {
	by := 1
	if name == "dec" {
		by = -1
	}
	if len(arg) == 2 {
		m.idle()
		m.setPair(arg, m.pair(arg)+by)
		return
	}
	v, f := alu.Step((1-by)/2, byte(m.get(arg)), byte(m.regs.F))
	m.put(arg, int(v))
	m.regs.F = int(f)
}

func indexOf(words, word string) int {
	for i, w := range strings.Fields(words) {
		if w == word {
			return i
		}
	}
	return -1
}

func (m *model) reckon(name string, args []string) {
	f := byte(m.regs.F)
	if args[0] == "hl" {
		w, f := alu.AddWord(uint16(m.pair("hl")), uint16(m.pair(args[1])), f)
		m.idle()
		m.setPair("hl", int(w))
		m.regs.F = int(f)
		return
	}
	if args[0] == "sp" {
		w, f := alu.AddOffset(uint16(m.regs.SP), byte(m.next()))
		m.idle()
		m.idle()
		m.regs.SP, m.regs.F = int(w), int(f)
		return
	}
	v, a := byte(0), byte(m.regs.A)
	if op := indexOf("add adc sub sbc and xor or cp", name); op >= 0 {
		v, f = alu.Arith(op, a, byte(m.get(args[1])), f)
		m.regs.A, m.regs.F = int(v), int(f)
		return
	}
	if op := indexOf("rlca rrca rla rra daa cpl scf ccf", name); op >= 0 {
		v, f = alu.Turn(op, a, f)
		m.regs.A, m.regs.F = int(v), int(f)
		return
	}
	m.alter(name, args, f)
}

func (m *model) alter(name string, args []string, f byte) {
	to := args[len(args)-1]
	v := byte(m.get(to))
	bit := int(args[0][0]) - '0'
	switch name {
	case "bit":
		m.regs.F = int(alu.Bit(bit, v, f))
		return
	case "res":
		v = alu.Res(bit, v)
	case "set":
		v = alu.Set(bit, v)
	default:
		v, f = alu.Shift(indexOf("rlc rrc rl rr sla sra swap srl", name), v, f)
		m.regs.F = int(f)
	}
	m.put(to, int(v))
}
