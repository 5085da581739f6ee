package cpu

import "arcade/api"

// kind is a kind of act: what a machine cycle is for. Those that read stand ahead of those that write.
type kind byte

const (
	none kind = iota // behind the last act of a row
	idle

	readFirst  // an instruction's first byte
	readBehind // a further byte of it
	readBC
	readDE
	readHL
	readHigh  // at 65280 and the byte that was read
	readHighC // at 65280 and C
	readAtWord
	popLow
	popHigh

	writeBC
	writeDE
	writeHL
	writeHigh
	writeHighC
	writeAtWord
	writeSource // at HL
	writeLatest // at HL, the byte that was read
	writeStepped
	writeAltered
	writeSPLow
	writeSPHigh
	pushPairHigh
	pushPairLow
	pushHigh
	pushLow
	pushLowAsked // and the lines at its end say which interrupt is taken
)

// wants tells which of the three a kind of act is.
func (k kind) wants() int {
	if k >= writeBC {
		return api.Write
	}
	if k >= readFirst {
		return api.Read
	}
	return api.Idle
}

// act is where a machine cycle reads or writes, and what it writes.
type act struct {
	at   func(*CPU) uint16
	data func(*CPU) byte
}

func actOf(k kind) act {
	acts := [...]act{
		none: {(*CPU).nowhere, (*CPU).noData},
		idle: {(*CPU).nowhere, (*CPU).noData},

		readFirst:  {(*CPU).here, (*CPU).noData},
		readBehind: {(*CPU).furtherByte, (*CPU).noData},
		readBC:     {(*CPU).bc, (*CPU).noData},
		readDE:     {(*CPU).de, (*CPU).noData},
		readHL:     {(*CPU).hl, (*CPU).noData},
		readHigh:   {(*CPU).high, (*CPU).noData},
		readHighC:  {(*CPU).highC, (*CPU).noData},
		readAtWord: {(*CPU).word, (*CPU).noData},
		popLow:     {(*CPU).top, (*CPU).noData},
		popHigh:    {(*CPU).aboveTop, (*CPU).noData},

		writeBC:      {(*CPU).bc, (*CPU).a},
		writeDE:      {(*CPU).de, (*CPU).a},
		writeHL:      {(*CPU).hl, (*CPU).a},
		writeHigh:    {(*CPU).high, (*CPU).a},
		writeHighC:   {(*CPU).highC, (*CPU).a},
		writeAtWord:  {(*CPU).word, (*CPU).a},
		writeSource:  {(*CPU).hl, (*CPU).source},
		writeLatest:  {(*CPU).hl, (*CPU).latest},
		writeStepped: {(*CPU).hl, (*CPU).steppedData},
		writeAltered: {(*CPU).hl, (*CPU).alteredData},
		writeSPLow:   {(*CPU).word, (*CPU).spLow},
		writeSPHigh:  {(*CPU).aboveWord, (*CPU).spHigh},
		pushPairHigh: {(*CPU).belowTop, (*CPU).pairHigh},
		pushPairLow:  {(*CPU).newTop, (*CPU).pairLow},
		pushHigh:     {(*CPU).belowTop, (*CPU).behindHigh},
		pushLow:      {(*CPU).newTop, (*CPU).behindLow},
		pushLowAsked: {(*CPU).newTop, (*CPU).behindLow},
	}
	return acts[k]
}

// highPage is where the ports lie.
const highPage = 65280

func (c *CPU) nowhere() uint16   { return 0 }
func (c *CPU) here() uint16      { return c.pc }
func (c *CPU) bc() uint16        { return c.pair(pairBC) }
func (c *CPU) de() uint16        { return c.pair(pairDE) }
func (c *CPU) hl() uint16        { return c.pair(pairHL) }
func (c *CPU) high() uint16      { return highPage + uint16(c.read[0]) }
func (c *CPU) highC() uint16     { return highPage + uint16(c.bytes[regC]) }
func (c *CPU) word() uint16      { return wordOf(c.read[1], c.read[0]) }
func (c *CPU) aboveWord() uint16 { return c.word() + 1 }
func (c *CPU) top() uint16       { return c.sp }
func (c *CPU) aboveTop() uint16  { return c.sp + 1 }
func (c *CPU) belowTop() uint16  { return c.sp - 1 }
func (c *CPU) newTop() uint16    { return c.sp - 2 }

// behindFirst is the address behind the first byte.
func (c *CPU) behindFirst() uint16 {
	if c.twice {
		return c.pc
	}
	return c.pc + 1
}

// furtherByte is the address of the byte that readBehind reads: no other acts stand ahead of it in a row.
func (c *CPU) furtherByte() uint16 {
	return c.behindFirst() + uint16(c.done)
}

// behind is the address behind the whole instruction; of a dispatch, which has no bytes, that at which it goes on later.
func (c *CPU) behind() uint16 {
	if c.phase == inDispatch {
		return c.pc
	}
	return c.behindFirst() + c.row().further()
}

func (c *CPU) noData() byte     { return 0 }
func (c *CPU) a() byte          { return c.bytes[regA] }
func (c *CPU) spLow() byte      { return byte(c.sp) }
func (c *CPU) spHigh() byte     { return byte(c.sp >> 8) }
func (c *CPU) pairLow() byte    { return byte(c.pushedPair(c.p())) }
func (c *CPU) pairHigh() byte   { return byte(c.pushedPair(c.p()) >> 8) }
func (c *CPU) behindLow() byte  { return byte(c.behind()) }
func (c *CPU) behindHigh() byte { return byte(c.behind() >> 8) }

// latest is the byte that was read last.
func (c *CPU) latest() byte {
	if c.many == 0 {
		return 0
	}
	return c.read[c.many-1]
}

// value is what a number in an opcode stands for: a register, or the byte that was read in its place.
func (c *CPU) value(n byte) byte {
	if n == atHL {
		return c.latest()
	}
	return c.bytes[n]
}

func (c *CPU) source() byte {
	return c.value(c.z())
}

func (c *CPU) steppedData() byte {
	v, _ := c.stepped()
	return v
}

func (c *CPU) alteredData() byte {
	v, _ := c.altered()
	return v
}
