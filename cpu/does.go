package cpu

import (
	"arcade/alu"
	"arcade/api"
)

// What instructions do at the end of their last cycle. PC is then behind them already.

func (c *CPU) nothing() {}

func (c *CPU) halt() { c.state = api.Halted }
func (c *CPU) stop() { c.state = api.Stopped }
func (c *CPU) lock() { c.state = api.Locked }

// ei is due behind the instruction that follows; while interrupts are let it is nothing.
func (c *CPU) ei() {
	if !c.ime {
		c.due = true
	}
}

func (c *CPU) di() {
	c.ime, c.due = false, false
}

// holds tells whether the condition holds that stands in the opcode: NZ, Z, NC, C.
func (c *CPU) holds() bool {
	asked := [4]byte{api.FlagZ, api.FlagZ, api.FlagC, api.FlagC}[c.y()&3]
	return (c.bytes[regF]&asked != 0) == (c.y()&1 == 1)
}

func (c *CPU) jump()     { c.pc = c.word() }
func (c *CPU) jumpHL()   { c.pc = c.hl() }
func (c *CPU) jumpNear() { c.pc += uint16(int8(c.latest())) }

func (c *CPU) call() {
	c.sp -= 2
	c.pc = c.word()
}

func (c *CPU) restart() {
	c.sp -= 2
	c.pc = 8 * uint16(c.y())
}

func (c *CPU) ret() {
	c.sp += 2
	c.pc = c.word()
}

func (c *CPU) reti() {
	c.ret()
	c.ime = true
}

func (c *CPU) push() { c.sp -= 2 }

func (c *CPU) pop() {
	c.sp += 2
	c.setPushedPair(c.p(), c.word())
}

func (c *CPU) move()  { c.setByte(c.y(), c.source()) }
func (c *CPU) loadA() { c.bytes[regA] = c.latest() }

func (c *CPU) hlUp()   { c.setPair(pairHL, c.hl()+1) }
func (c *CPU) hlDown() { c.setPair(pairHL, c.hl()-1) }

func (c *CPU) loadAUp() {
	c.loadA()
	c.hlUp()
}

func (c *CPU) loadADown() {
	c.loadA()
	c.hlDown()
}

func (c *CPU) loadPair() { c.setPair(c.p(), c.word()) }
func (c *CPU) loadSP()   { c.sp = c.hl() }
func (c *CPU) pairUp()   { c.setPair(c.p(), c.pair(c.p())+1) }
func (c *CPU) pairDown() { c.setPair(c.p(), c.pair(c.p())-1) }

func (c *CPU) addPair() {
	sum, f := alu.AddWord(c.hl(), c.pair(c.p()), c.bytes[regF])
	c.setPair(pairHL, sum)
	c.bytes[regF] = f
}

func (c *CPU) addSP() {
	c.sp, c.bytes[regF] = alu.AddOffset(c.sp, c.latest())
}

func (c *CPU) loadHL() {
	sum, f := alu.AddOffset(c.sp, c.latest())
	c.setPair(pairHL, sum)
	c.bytes[regF] = f
}

func (c *CPU) sum() {
	c.bytes[regA], c.bytes[regF] = alu.Arith(int(c.y()), c.a(), c.source(), c.bytes[regF])
}

func (c *CPU) turn() {
	c.bytes[regA], c.bytes[regF] = alu.Turn(int(c.y()), c.a(), c.bytes[regF])
}

// stepped is what INC and DEC make of their byte, and the flags.
func (c *CPU) stepped() (byte, byte) {
	return alu.Step(int(c.z()&1), c.value(c.y()), c.bytes[regF])
}

func (c *CPU) step() {
	v, f := c.stepped()
	c.setByte(c.y(), v)
	c.bytes[regF] = f
}

// altered is what an instruction of the second table makes of its byte, and the flags.
func (c *CPU) altered() (byte, byte) {
	code := c.read[0]
	alters := [4]func(n int, v, f byte) (byte, byte){alu.Shift, askBit, clearBit, setBit}
	return alters[code>>6](int(code>>3&7), c.value(code&7), c.bytes[regF])
}

func askBit(n int, v, f byte) (byte, byte)   { return v, alu.Bit(n, v, f) }
func clearBit(n int, v, f byte) (byte, byte) { return alu.Res(n, v), f }
func setBit(n int, v, f byte) (byte, byte)   { return alu.Set(n, v), f }

func (c *CPU) alter() {
	v, f := c.altered()
	c.setByte(c.read[0]&7, v)
	c.bytes[regF] = f
}
